/-
  The statement about TokenBack: for every input the law returns true, and each argument reads afterwards as it read before. No condition.
-/
import Derived.Test.YtjhmjdacjaefaaaRows
import Derived.Test.YtjhmjdacjaefaaaTkFrame
import Derived.WalkKit
import Derived.ProofKit
import Derived.OpenShut
import Derived.ShutString
import Derived.SizedLaws
import Derived.Laws.AppendOwnNone
namespace Go.Proofs.Ytjhmjdacjaefaaa.tokenBack
open Go.ChangeShapes Go.WideShapes Go.ChangeAt Go.RowKit
open Go.ChangeMaps (open_string shut_string)
open Go.Proofs.Ytjhmjdacjaefaaa.Tk
set_option linter.unusedVariables false

theorem own : ownKnob Try.prog.godebug = none := by kernel_rfl

theorem few_flat : ∀ xs : List (List UInt8), (∀ x ∈ xs, x.length ≤ 1000) → xs.flatten.length ≤ 1000 * xs.length
  | [], _ => Nat.le_refl _
  | x :: r, h => by
    have h1 := few_flat r (fun y hy => h y (List.mem_cons_of_mem _ hy))
    have h2 := h x (List.mem_cons_self ..)
    rw [List.flatten_cons, List.length_append, List.length_cons]
    omega
theorem take_flat {xs : List (List UInt8)} {k : Nat} (h : k < xs.length) : S (xs.take k).flatten ++ S xs[k] = S (xs.take (k + 1)).flatten := by
  rw [S_app, List.take_add_one, get_lt h, List.flatten_append]
  simp
theorem take_flat_len (xs : List (List UInt8)) (k : Nat) : (xs.take k).flatten.length ≤ xs.flatten.length := by
  have := congrArg List.length (congrArg List.flatten (List.take_append_drop k xs))
  rw [List.flatten_append, List.length_append] at this
  omega

set_option maxHeartbeats 3200000 in
theorem walk (w : World) (a0 : ByteArray) (w0 : a0.size ≤ maxLen) (r0 : a0.size ≤ reachBytes) (a1 : Value) (x1 : List (List UInt8)) (w1 : Rd w a1 x1) (n1 : x1.length ≤ 9223372036854775807) :
    Calls Try.prog 5 #[.string a0, a1] w fun e w' => e = .returned (.bool true) ∧ Below w.heap.size w w' := by
  by_cases hl : 2000 < a0.size
  · go_enter Try.func5, Try.ntmps5
    go_wp2_with fail
    refine (awake_any _).mono ?_
    rintro e w1 ⟨rfl, hb⟩
    go_wp2_with fail
    refine (awake_any _).mono ?_
    rintro e w2 ⟨rfl, hb2⟩
    go_wp2_with fail
    go_ret
    exact ⟨rfl, hb.trans (hb2.mono hb.size)⟩
  have z0 : a0.size ≤ 2000 := by omega
  have Hf : Hid (∀ w', Below w.heap.size w w' → Calls Try.prog 14 #[a1] w' fun e w'' => e = .returned (.bool (fewB x1)) ∧ w' = w'') := Lib.hid (fun w' h => few_any a1 x1 w' (w1.below h) n1)
  cases hfe : fewB x1 with
  | false =>
    rw [hfe] at Hf
    go_enter Try.func5, Try.ntmps5
    go_wp2_with fail
    refine (awake_any _).mono ?_
    rintro e w1 ⟨rfl, hb⟩
    go_wp2_with fail
    refine (Hf.out _ hb).mono ?_
    rintro e w2 ⟨rfl, rfl⟩
    go_wp2_with fail
    refine (awake_any _).mono ?_
    rintro e w2 ⟨rfl, hb2⟩
    go_wp2_with fail
    go_ret
    exact ⟨rfl, hb.trans (hb2.mono hb.size)⟩
  | true =>
    rw [hfe] at Hf
    have Hfe := Lib.hid (few_of hfe)
    have hx1 : x1.length ≤ 60 := Hfe.out.1
    have hfl : x1.flatten.length ≤ 60000 := Nat.le_trans (few_flat x1 Hfe.out.2) (by omega)
    have Hc := Lib.hid (cut_any a0 (by omega))
    have hlc : (toks a0.data.toList).length ≤ 2000 := by have := toks_len a0.data.toList; rw [len_data] at this; omega
    have Hmem : Hid (∀ x ∈ toks a0.data.toList, toks x = [x] ∧ x.length ≤ 2000) := Lib.hid (fun x hx => ⟨toks_again _ x hx, by
      have := tc_mem_len a0.data.toList [] x hx
      rw [len_data] at this
      simp at this
      omega⟩)
    have Hflat : Hid (S (toks a0.data.toList).flatten = a0) := Lib.hid (by rw [toks_flat, S_of])
    have hfz : (toks a0.data.toList).flatten.length ≤ 2000 := by rw [toks_flat, len_data]; omega
    have W1 := Lib.hid w1
    clear hfe hl w1
    generalize toks a0.data.toList = xs at *
    obtain ⟨ao1, ca1, rfl⟩ := W1.out.len
    go_enter Try.func5, Try.ntmps5
    go_wp2_with fail
    refine (awake_any _).mono ?_
    rintro e w1 ⟨rfl, hb⟩
    have B1 := Lib.hid hb
    clear hb
    go_wp2_with fail
    refine (Hf.out _ B1.out).mono ?_
    rintro e w2 ⟨rfl, rfl⟩
    go_wp2_with fail
    refine (Hc.out _).mono ?_
    rintro e w2 ⟨vx, rfl, hown, hb⟩
    have RX := Lib.hid (Rd.of_own hown)
    have B2 := Lib.hid (B1.out.trans (hb.mono B1.out.size))
    clear hown hb
    obtain ⟨ao, ca, rfl⟩ := RX.out.len
    go_wp2_with fail
    go_loopw [27] (fun i wr => ∃ k : Nat, k ≤ xs.length ∧ i = .int .i64 k ∧ Hid (Below w.heap.size w wr) ∧ Hid (Rd wr (.slice ao xs.length ca) xs)) (fun i _ => xs.length - (intOf i).toNat)
    case atStart => exact ⟨0, Nat.zero_le _, rfl, B2, RX⟩
    case round =>
      clear RX B1 B2 Hc Hf
      obtain ⟨k, hk, rfl, HB, RX⟩ := hrel
      by_cases hlt : k < xs.length
      · obtain ⟨ao', ca', hv, _, hcx⟩ := RX.out
        simp only [Value.slice.injEq, true_and] at hv
        obtain ⟨rfl, rfl⟩ := hv
        rcases hcx with hcx | ⟨b, o, rfl, hbl, hcell⟩
        · rw [hcx] at hlt; exact absurd hlt (Nat.not_lt_zero _)
        have k1 := hcell k _ (get_lt hlt)
        obtain ⟨m1, m2⟩ := Hmem.out xs[k] (List.getElem_mem hlt)
        have hc := cut_any (S xs[k]) (by rw [S_size]; omega)
        rw [S_list, m1] at hc
        have Hc := Lib.hid hc
        have hi : (k : Int) < (xs.length : Int) := by omega
        have e1 : ((S xs[k]).toList != (S xs[k]).toList) = false := by simp
        have HL := Lib.hid hlt
        have HC := Lib.hid hcell
        clear hcell hc m1 m2
        generalize xs[k] = x at *
        go_wp2_with fail
        refine (Hc.out _).mono ?_
        rintro e w4 ⟨vd, rfl, hown, hb⟩
        have k2 : w4.cell? ⟨b, o + k, none⟩ = some (.string (S x)) := (hb.cell (by exact hbl)).trans k1
        rcases hown.2 with ⟨_, h0⟩ | ⟨gd, cd, ud, rfl, _, _, _, _, _, _⟩
        · exact absurd h0 (by simp)
        have k3 : w4.cell? ⟨gd, 0, none⟩ = some (.string (S x)) := by rw [hown.cellAt 0 (by simp)]; rfl
        have RX4 := Lib.hid (RX.out.below hb)
        have B4 := Lib.hid (HB.out.trans (hb.mono HB.out.size))
        clear hown hb
        go_wp2_with fail
        go_quiet (fail)
        go_wp2_with fail
        go_roundw
        case rel => exact ⟨k + 1, by omega, by go_num, Lib.hid (below_drewN B4.out _), Lib.hid (RX4.out.below (below_drewN (Below.refl _ _) _))⟩
        case measure => simp [intOf]; omega
      · obtain rfl : k = xs.length := by omega
        have W3 := Lib.hid (W1.out.below HB.out)
        clear hlt
        clear W1 Hmem
        go_wp2_with fail
        go_loop [8, 51] (fun s i => ∃ j : Nat, j ≤ x1.length ∧ i = .int .i64 j ∧ s = .string (S (x1.take j).flatten)) (fun _ i => x1.length - (intOf i).toNat)
        case atStart => exact ⟨0, Nat.zero_le _, rfl, rfl⟩
        case round =>
          obtain ⟨j, hj, rfl, rfl⟩ := hrel
          by_cases hjl : j < x1.length
          · obtain ⟨ao', ca', hv, _, hcx⟩ := W3.out
            simp only [Value.slice.injEq, true_and] at hv
            obtain ⟨rfl, rfl⟩ := hv
            rcases hcx with hcx | ⟨b, o, rfl, hbl, hcell⟩
            · rw [hcx] at hjl; exact absurd hjl (Nat.not_lt_zero _)
            have k1 := hcell j _ (get_lt hjl)
            have HS := Lib.hid (take_flat hjl)
            have s1 : (S (x1.take j).flatten).size ≤ 60000 := by rw [S_size]; exact Nat.le_trans (take_flat_len _ _) hfl
            have s2 : (S x1[j]).size ≤ 1000 := by rw [S_size]; exact Hfe.out.2 _ (List.getElem_mem hjl)
            have HL := Lib.hid hjl
            clear hcell
            generalize S x1[j] = x at *
            generalize S (x1.take j).flatten = acc at *
            go_wp2_with fail
            go_round
            case rel => exact ⟨j + 1, by omega, by go_num, by rw [← HS.out]⟩
            case measure => simp [intOf]; omega
          · have hx : x1.take j = x1 := List.take_of_length_le (by omega)
            rw [hx]
            have e1 : (a0.toList == a0.toList) = true := by simp
            have e2 : ((S x1.flatten).toList == (S x1.flatten).toList) = true := by simp
            have HJ := Lib.hid (join_any _ xs wr RX.out (by omega) (by omega))
            rw [Hflat.out] at HJ
            clear hx
            go_wp2_with fail
            refine HJ.out.mono ?_
            rintro e w5 ⟨rfl, hb⟩
            have B5 := Lib.hid (HB.out.trans (hb.mono HB.out.size))
            have HJ2 := Lib.hid (join_any _ x1 w5 (W3.out.below hb) (by omega) (by omega))
            clear hb
            go_wp2_with fail
            refine HJ2.out.mono ?_
            rintro e w6 ⟨rfl, hb⟩
            have B6 := Lib.hid (B5.out.trans (hb.mono B5.out.size))
            clear hb
            go_wp2_with fail
            go_ret
            exact ⟨rfl, B6.out⟩

set_option maxRecDepth 100000 in
theorem lifted (os : Os) (started : os.Started) (H : Type) (enc : TypeId × Value → H) :
    ReturnsInHanded {} Try.checked os 5 .any (Rows.tokenBackSpec.pre6 enc Try.prog Try.f5 Rows.tokenBackRow.domain false) (Rows.tokenBackSpec.post enc Try.prog Try.f5 false true false false) := by
  refine returnsInHanded_of_change_sized (C := Try.checked) own started (by kernel_rfl) Try.func5
    (ChangeSpec.witness6 (enc := enc) (C := Try.checked) false ⟨#[], #[.string ByteArray.empty, .slice none 0 0], []⟩ 8 (by kernel_rfl) (by kernel_rfl) (by kernel_rfl) (by kernel_rfl)) ?_
  intro W base args ds gs before hval0 hW hcnd hsz0 _
  have hval : ∀ (j : Nat) t v, Try.f5.params[j]? = some t → args[j]? = some v → Value.okWide Try.prog W .any base t v := hval0
  have hsz : (DataW.weightsEach Try.prog (Try.f5.params.toList ++ Rows.tokenBackSpec.plain.varTypes Try.prog) (ds ++ gs)).all (· ≤ reachBytes) = true := hsz0
  have hW' := hW
  obtain ⟨p, q, hA0, hV, rfl, hfz, hnd⟩ := hW
  have hA : DataW.TrodAll enc Try.prog W 0 (fun _ => true) true Try.f5.params.toList args.toList ds p := hA0
  rw [Try.params5] at hA hval hsz
  obtain ⟨v0, vs0, d0, ds0, p0, q0, hargs, rfl, rfl, h0, r0⟩ := trodAll_cons hA
  obtain ⟨v1, vs1, d1, ds1, p1, q1, rfl, rfl, rfl, h1, r1⟩ := trodAll_cons r0
  obtain ⟨rfl, rfl, rfl⟩ := trodAll_nil r1
  obtain rfl : args = #[v0, v1] := by cases args; simp_all
  obtain ⟨rfl, rfl⟩ := trodVars_none hV
  obtain ⟨s1, l1, c1, rfl⟩ := okWide_slice Try.underlying24 (hval 1 24 v1 rfl rfl)
  obtain ⟨a0, rfl, rfl, rfl, w0⟩ := open_string Try.underlying9 (hval 0 9 v0 rfl rfl) h0
  have hlt1 : ∀ x ∈ p1, x.block < W.heap.size := fun x hx => hW'.lt x (by simp [hx])
  obtain ⟨x1, w1, n1⟩ := rd_of h1 hlt1
  clear hA0 hval0 hsz0
  simp only [List.append_nil] at hW'
  refine (walk W a0 w0 (by have := sized_string hsz (j := 0) (t := 9) rfl rfl; simpa using this) _ x1 w1 n1).mono fun e W' ⟨he, bel⟩ => ?_
  subst he
  exact ⟨_, rfl, _, _, _, [], _, [], hW', trodAll_mk1 (shut_bool Try.underlying4 _), (trodAll_cons_mk (shut_string Try.underlying9 w0) (trodAll_cons_mk (Below.trod laidOut (by kernel_rfl) (of_decide_eq_true (by kernel_rfl)) h1 bel hlt1) trodAll_mk0)), rfl, bel.frame _, fun h => by cases h⟩

theorem over : Rows.tokenBackRow.holds Try.pinned (OpenSpec.ofChange Rows.tokenBackSpec) :=
  OpenClaim.holds_of_wide 5 Try.f5 rfl rfl rfl rfl rfl rfl rfl ⟨rfl, rfl, rfl, rfl, rfl⟩ rfl rfl rfl rfl rfl (by kernel_rfl) Try.func5 (by kernel_rfl)
    (of_decide_eq_true (by kernel_rfl)) (by unfold Func.isWrapper; first | (rw [if_pos (by decide +kernel)]; kernel_rfl) | (rw [if_neg (by decide +kernel)]; exact ⟨rfl, rfl⟩))
    (fun os started H enc _ => lifted os started H enc)

theorem proved : Rows.TokenBackSaid :=
  over
end Go.Proofs.Ytjhmjdacjaefaaa.tokenBack
