/-
  The statement about TokenLists: for every input the law returns true, and each argument reads afterwards as it read before. No condition.
-/
import Derived.Test.YtjhmjdacjaefaaaRows
import Derived.Test.YtjhmjdacjaefaaaTkLists
import Derived.WalkKit
import Derived.ProofKit
import Derived.OpenShut
import Derived.ShutString
import Derived.SizedLaws
import Derived.Laws.AppendOwnNone
namespace Go.Proofs.Ytjhmjdacjaefaaa.tokenLists
open Go.ChangeShapes Go.WideShapes Go.ChangeAt Go.RowKit
open Go.ChangeMaps (open_string shut_string)
open Go.Proofs.Ytjhmjdacjaefaaa.Tk
set_option linter.unusedVariables false

theorem own : ownKnob Try.prog.godebug = none := by kernel_rfl

theorem run_append_rd {w : World} {B : Nat} {v u : Value} {os ys : List Tx} (h : w.ownsRow B 9 1 v os.length (os.map encStr)) (hu : Rd w u ys) (hB : B ≤ w.heap.size) (hs : os.length + ys.length ≤ 1000000) :
    ∃ v' w', (∀ ty, (Builtin.append_ #[24, 24] ty #[v, u]).run Try.prog w = .ok v' w') ∧ w'.ownsRow B 9 1 v' (os ++ ys).length ((os ++ ys).map encStr) ∧ w.grownBy w' v.ownBlock := by
  obtain ⟨i0, hi, hz0, hz1, hz2⟩ := info_parts infoS
  obtain ⟨ao, c, rfl, hc, hx⟩ := hu
  by_cases h0 : ys = []
  · subst h0
    refine ⟨v, w, fun ty => run_append_empty hi h ty ao c, by rw [List.append_nil]; exact h, ⟨rfl, rfl, rfl, Nat.le_refl _, fun k _ _ => rfl⟩⟩
  · rcases hx with hx | ⟨b, o, rfl, hlt, hcell⟩
    · exact absurd hx h0
    obtain ⟨v', w', h1, h2, h3, _⟩ := run_append_own (P := Try.prog) w B 24 0 9 i0 (.string ⟨#[]⟩) 1 16 Try.underlying24 hi hz0 hz1 hz2 rfl (by decide) v os.length (os.map encStr) h ⟨b, o, none⟩ ys.length c (ys.map encStr) (by simp) (enc_cells hcell) (enc_one ys) (by unfold maxLen; omega) (by omega) hB
    refine ⟨v', w', fun ty => h1, ?_, h3⟩
    rw [List.length_append, List.map_append]
    exact h2
theorem rsame_eq (lo1 lo2 : Nat) (a b : Value) (xs : List Int) (w : World) (ha : RdI lo1 w a xs) (hb : RdI lo2 w b xs) (hx : xs.length ≤ 1000000) :
    Calls Try.prog 16 #[a, b] w fun e w' => e = .returned (.bool true) ∧ ∃ n, w' = w.drewN n := by
  have := rsame_any lo1 lo2 a b xs xs w ha hb hx hx
  rwa [decide_eq_true rfl] at this
/-- Is a text not among the first k? -/
def fresh (xs : List Tx) (k : Nat) (x : Tx) : Bool := decide (x ∉ xs.take k)
theorem fresh_zero (xs : List Tx) (x : Tx) : fresh xs 0 x = true := by simp [fresh]
theorem fresh_next {xs : List Tx} {k : Nat} (hk : k < xs.length) (x : Tx) : fresh xs (k + 1) x = (fresh xs k x && !((S xs[k]).toList == (S x).toList)) := by
  unfold fresh
  rw [S_toList, S_toList, Bool.eq_iff_iff, take_snoc hk]
  simp only [List.mem_append, List.mem_singleton, decide_eq_true_eq, Bool.and_eq_true, Bool.not_eq_true', beq_eq_false_iff_ne, not_or]
  exact ⟨fun h => ⟨h.1, fun e => h.2 e.symm⟩, fun h => ⟨h.1, fun e => h.2 e.symm⟩⟩
theorem dd_next {xs : List Tx} {k : Nat} (hk : k < xs.length) : (dd (xs.take (k + 1))).length = (dd (xs.take k)).length + (if fresh xs k xs[k] then 1 else 0) := by
  rw [take_snoc hk, dd_snoc]
  unfold fresh
  by_cases h : xs[k] ∈ xs.take k
  · simp [h]
  · simp [h]
theorem dd_le : ∀ l : List Tx, (dd l).length ≤ l.length
  | [] => Nat.le_refl _
  | x :: r => by
    have := dd_le r
    unfold dd
    split
    · rw [List.length_cons]; omega
    · rw [List.length_cons, List.length_cons]; omega
theorem fa_of {w : World} {ao : Option Addr} {n c : Nat} {x : List Tx} (h : Rd w (.slice ao n c) x) : ∀ i (hi : i < x.length), ∃ b o, ao = some ⟨b, o, none⟩ ∧ b < w.heap.size ∧ w.cell? ⟨b, o + i, none⟩ = some (.string (S x[i])) := by
  intro i hi
  obtain ⟨ao', c', hv, _, hx⟩ := h
  simp only [Value.slice.injEq] at hv
  obtain ⟨rfl, _, _⟩ := hv
  rcases hx with hx | ⟨b, o, rfl, hlt, hcell⟩
  · rw [hx] at hi; exact absurd hi (Nat.not_lt_zero _)
  · exact ⟨b, o, rfl, hlt, hcell i _ (get_lt hi)⟩
theorem four {P : Nat → Prop} (h0 : P 0) (h1 : P 1) (h2 : P 2) (h3 : P 3) : ∀ j, j < 4 → P j := by
  intro j hj
  match j, hj with
  | 0, _ => exact h0
  | 1, _ => exact h1
  | 2, _ => exact h2
  | 3, _ => exact h3
/-- One of the lists of numbers: where it lies, and its bounds. -/
def Row (w : World) (b m : Nat) (j : Nat) : Prop :=
  ∃ au n cu, w.cell? ⟨b, j, none⟩ = some (.slice au n cu) ∧ n ≤ 60 ∧ ∀ i, i < n → ∃ g p, au = some ⟨g, 0, none⟩ ∧ g < w.heap.size ∧ w.cell? ⟨g, i, none⟩ = some (.int .i64 p) ∧ 0 ≤ p ∧ p < (m : Int)
theorem Row.of {w : World} {b j : Nat} {au : Option Addr} {n cu lo : Nat} {all x : List Tx} (hc : w.cell? ⟨b, j, none⟩ = some (.slice au n cu)) (h : RdI lo w (.slice au n cu) (rk all x)) (hn : x.length ≤ 60) (hm : ∀ y ∈ x, y ∈ all) : Row w b (dd all).length j := by
  obtain ⟨au', cu', hv, hx⟩ := h
  simp only [Value.slice.injEq] at hv
  obtain ⟨rfl, rfl, rfl⟩ := hv
  rw [rk_len] at hc
  refine ⟨au, x.length, cu, hc, hn, fun i hi => ?_⟩
  rcases hx with hx | ⟨g, rfl, _, hlt, hcell⟩
  · have := congrArg List.length hx; rw [rk_len] at this; simp at this; rw [this] at hi; exact absurd hi (Nat.not_lt_zero _)
  · refine ⟨g, (rank all x[i] : Int), rfl, hlt, hcell i _ (by unfold rk; rw [List.getElem?_map, get_lt hi]; rfl), by omega, ?_⟩
    have := rank_bound (hm _ (List.getElem_mem hi))
    omega

set_option maxHeartbeats 6400000 in
set_option maxRecDepth 100000 in
theorem walk (w : World) (a0 : Value) (x0 : List (List UInt8)) (w0 : Rd w a0 x0) (n0 : x0.length ≤ 9223372036854775807) (a1 : Value) (x1 : List (List UInt8)) (w1 : Rd w a1 x1) (n1 : x1.length ≤ 9223372036854775807) :
    Calls Try.prog 9 #[a0, a1] w fun e w' => e = .returned (.bool true) ∧ Below w.heap.size w w' := by
  have Hf0 : Hid (∀ w', Below w.heap.size w w' → Calls Try.prog 14 #[a0] w' fun e w'' => e = .returned (.bool (fewB x0)) ∧ w' = w'') := Lib.hid (fun w' h => few_any a0 x0 w' (w0.below h) n0)
  have Hf1 : Hid (∀ w', Below w.heap.size w w' → Calls Try.prog 14 #[a1] w' fun e w'' => e = .returned (.bool (fewB x1)) ∧ w' = w'') := Lib.hid (fun w' h => few_any a1 x1 w' (w1.below h) n1)
  cases hf0 : fewB x0 with
  | false =>
    rw [hf0] at Hf0
    go_enter Try.func9, Try.ntmps9
    go_wp2_with fail
    refine (awake_any _).mono ?_
    rintro e w1 ⟨rfl, hb⟩
    go_wp2_with fail
    refine (Hf0.out _ hb).mono ?_
    rintro e w2 ⟨rfl, rfl⟩
    go_wp2_with fail
    refine (awake_any _).mono ?_
    rintro e w2 ⟨rfl, hb2⟩
    go_wp2_with fail
    go_ret
    exact ⟨rfl, hb.trans (hb2.mono hb.size)⟩
  | true =>
    rw [hf0] at Hf0
    cases hf1 : fewB x1 with
    | false =>
      rw [hf1] at Hf1
      go_enter Try.func9, Try.ntmps9
      go_wp2_with fail
      refine (awake_any _).mono ?_
      rintro e w1 ⟨rfl, hb⟩
      go_wp2_with fail
      refine (Hf0.out _ hb).mono ?_
      rintro e w2 ⟨rfl, rfl⟩
      go_wp2_with fail
      refine (Hf1.out _ hb).mono ?_
      rintro e w2 ⟨rfl, rfl⟩
      go_wp2_with fail
      refine (awake_any _).mono ?_
      rintro e w2 ⟨rfl, hb2⟩
      go_wp2_with fail
      go_ret
      exact ⟨rfl, hb.trans (hb2.mono hb.size)⟩
    | true =>
      rw [hf1] at Hf1
      have l0 : x0.length ≤ 60 := (few_of hf0).1
      have l1 : x1.length ≤ 60 := (few_of hf1).1
      have W0 := Lib.hid w0
      have W1 := Lib.hid w1
      clear hf0 hf1 w0 w1
      obtain ⟨ao0, c0, rfl⟩ := W0.out.len
      obtain ⟨ao1, c1, rfl⟩ := W1.out.len
      go_enter Try.func9, Try.ntmps9
      go_wp2_with fail
      refine (awake_any _).mono ?_
      rintro e w1 ⟨rfl, hb⟩
      have B1 := Lib.hid hb
      clear hb
      go_wp2_with fail
      refine (Hf0.out _ B1.out).mono ?_
      rintro e w2 ⟨rfl, rfl⟩
      go_wp2_with fail
      refine (Hf1.out _ B1.out).mono ?_
      rintro e w2 ⟨rfl, rfl⟩
      have hBa : Below w1.heap.size w1 (w1.alloc (.cells #[] 9)) := (Below.refl _ _).alloc (Nat.le_refl _) _
      obtain ⟨v2, w2, hr2, o2, g2⟩ := run_append_rd (w := w1.alloc (.cells #[] 9)) (B := w1.heap.size) (os := []) (World.ownsRow_lit w1 #[] 0 (Nat.le_refl _) (Nat.zero_le _) rfl) ((W0.out.below B1.out).below hBa) (by simp) (by simp; omega)
      have hB2 := hBa.grown g2 (by simp) (fun k hk => by simp [Value.ownBlock] at hk; omega)
      obtain ⟨v3, w3, hr3, o3, g3⟩ := run_append_rd (w := w2) (B := w1.heap.size) o2 ((W1.out.below B1.out).below hB2) hB2.size (by simp; omega)
      have hB3 := hB2.grown g3 hB2.size (fun k hk => (o2.lt k hk).1)
      have B3 := Lib.hid (B1.out.trans (hB3.mono B1.out.size))
      have RX := Lib.hid (Rd.of_own o3)
      rw [List.nil_append] at RX
      obtain ⟨all, hall⟩ : ∃ all, x0 ++ x1 = all := ⟨_, rfl⟩
      rw [hall] at RX
      have hxl : all.length ≤ 120 := by rw [← hall, List.length_append]; omega
      have HALL := Lib.hid hall
      obtain ⟨av, cv, rfl⟩ := RX.out.len
      clear hBa hB2 hB3 o2 g2 o3 g3 hall Hf0 Hf1
      go_wp2_with (first
        | (at_builtin; refine Lib.wpList_append_run _ rfl (.tmp 27) (.tmp 28) _ _ rfl _ _ rfl rfl _ _ (hr2 _) ?_)
        | (at_builtin; refine Lib.wpList_append_run _ rfl (.tmp 29) (.tmp 30) _ _ rfl _ _ rfl rfl _ _ (hr3 _) ?_))
      clear hr2 hr3
      have FX := Lib.hid (fa_of RX.out)
      go_loopw [5, 34] (fun u i wr => ∃ k : Nat, k ≤ all.length ∧ i = .int .i64 k ∧ u = .int .i64 (dd (all.take k)).length ∧ Hid (Below w3.heap.size w3 wr)) (fun _ i _ => all.length - (intOf i).toNat)
      case atStart => exact ⟨0, Nat.zero_le _, rfl, rfl, Lib.hid (Below.refl _ _)⟩
      case round =>
        obtain ⟨i, hi, rfl, rfl, HB⟩ := hrel
        by_cases hil : i < all.length
        · obtain ⟨bx, ox, rfl, hbx, ci⟩ := FX.out i hil
          have HD := Lib.hid (dd_next hil)
          have hdl : (dd (all.take i)).length ≤ 120 := Nat.le_trans (dd_le _) (by rw [List.length_take]; omega)
          have Ci := Lib.hid ci
          have HZ := Lib.hid (fresh_zero all all[i])
          clear ci
          generalize all[i] = x at *
          generalize (dd (all.take i)).length = d at *
          go_wp2_with fail
          go_loopw [8, 38] (fun f k wr => ∃ j : Nat, j ≤ i ∧ k = .int .i64 j ∧ f = .bool (fresh all j x) ∧ Hid (Below w3.heap.size w3 wr)) (fun _ k _ => i - (intOf k).toNat)
          case atStart => exact ⟨0, Nat.zero_le _, rfl, by rw [HZ.out], HB⟩
          case round =>
            clear HB HZ
            obtain ⟨j, hj, rfl, rfl, HB⟩ := hrel
            by_cases hjl : j < i
            · have hja : j < all.length := by omega
              obtain ⟨bx', ox', he, _, cj⟩ := FX.out j hja
              simp only [Option.some.injEq, Addr.mk.injEq, and_true] at he
              obtain ⟨rfl, rfl⟩ := he
              have HF := Lib.hid (fresh_next hja x)
              have q1 : wr.cell? ⟨bx, ox + i, none⟩ = some (.string (S x)) := (HB.out.cell (by exact hbx)).trans Ci.out
              have q2 : wr.cell? ⟨bx, ox + j, none⟩ = some (.string (S all[j])) := (HB.out.cell (by exact hbx)).trans cj
              have i1 : (i : Int) < (all.length : Int) := by omega
              have i2 : (j : Int) < (all.length : Int) := by omega
              clear cj
              generalize S all[j] = sj at *
              generalize S x = sx at *
              cases hf : fresh all j x with
              | true =>
                rw [hf, Bool.true_and] at HF
                go_wp2_with fail
                go_quiet (fail)
                go_wp2_with fail
                go_roundw
                case rel => exact ⟨j + 1, by omega, by go_num, by rw [HF.out], Lib.hid (below_drewN HB.out _)⟩
                case measure => simp [intOf]; omega
              | false =>
                rw [hf, Bool.false_and] at HF
                go_wp2_with fail
                go_quiet (fail)
                go_wp2_with fail
                go_roundw
                case rel => exact ⟨j + 1, by omega, by go_num, by rw [HF.out], Lib.hid (below_drewN HB.out _)⟩
                case measure => simp [intOf]; omega
            · obtain rfl : j = i := by omega
              clear hjl
              cases hf : fresh all j x with
              | true =>
                rw [hf] at HD
                go_wp2_with fail
                go_roundw
                case rel => exact ⟨j + 1, by omega, by go_num, by rw [HD.out]; go_num, HB⟩
                case measure => simp [intOf]; omega
              | false =>
                rw [hf] at HD
                go_wp2_with fail
                go_roundw
                case rel => exact ⟨j + 1, by omega, by go_num, by rw [HD.out]; rfl, HB⟩
                case measure => simp [intOf]; omega
        · obtain rfl : i = all.length := by omega
          have htk : all.take all.length = all := List.take_length
          rw [htk]
          clear hil htk
          have HB1 := Lib.hid (B3.out.trans (HB.out.mono B3.out.size))
          have hid := ids_any _ [x0, x1, x0, x1] _ (rdl4 (t := 24) (W0.out.below HB1.out) (W1.out.below HB1.out)) (by simp) (by simp; omega)
          have hrk : ∀ l, rk ([x0, x1, x0, x1] : List (List Tx)).flatten l = rk all l := fun l => rk_same (fun y => by rw [← HALL.out]; simp; exact ⟨fun h => by rcases h with h | h | h | h <;> simp [h], fun h => by rcases h with h | h <;> simp [h]⟩) l
          rw [show (rk ([x0, x1, x0, x1] : List (List Tx)).flatten) = rk all from funext hrk] at hid
          have HI := Lib.hid hid
          clear hid hrk
          have M0 : Hid (∀ x ∈ x0, x ∈ all) := Lib.hid (fun x hx => by rw [← HALL.out]; simp [hx])
          have M1 : Hid (∀ x ∈ x1, x ∈ all) := Lib.hid (fun x hx => by rw [← HALL.out]; simp [hx])
          have hdm : (dd all).length ≤ 120 := Nat.le_trans (dd_le _) hxl
          go_wp2_with fail
          refine HI.out.mono ?_
          rintro e w5 ⟨v5, rfl, hli, hb5⟩
          have B5 := Lib.hid ((HB1.out.alloc HB1.out.size _).trans (hb5.mono (by simp; have := HB1.out.size; omega)))
          obtain ⟨b5, cap5, rfl, hlt5, hcell5⟩ := hli
          obtain ⟨u0, k0, r0⟩ := hcell5 0 _ rfl
          obtain ⟨u1, k1, r1⟩ := hcell5 1 _ rfl
          obtain ⟨u2, k2, r2⟩ := hcell5 2 _ rfl
          obtain ⟨u3, k3, r3⟩ := hcell5 3 _ rfl
          obtain ⟨au0, cu0, hu0⟩ := r0.len
          obtain ⟨au1, cu1, hu1⟩ := r1.len
          obtain ⟨au2, cu2, hu2⟩ := r2.len
          obtain ⟨au3, cu3, hu3⟩ := r3.len
          subst hu0
          subst hu1
          subst hu2
          subst hu3
          have HROW := Lib.hid (four (P := Row w5 b5 (dd all).length) (Row.of k0 r0 l0 M0.out) (Row.of k1 r1 l1 M1.out) (Row.of k2 r2 l0 M0.out) (Row.of k3 r3 l1 M1.out))
          rw [rk_len] at k0 k1 k2 k3 r0 r1 r2 r3
          have S02 := Lib.hid (fun n => rsame_eq 0 0 _ _ (rk all x0) (w5.drewN n) (RdI.drew r0 n) (RdI.drew r2 n) (by rw [rk_len]; omega))
          have S13 := Lib.hid (fun n => rsame_eq 0 0 _ _ (rk all x1) (w5.drewN n) (RdI.drew r1 n) (RdI.drew r3 n) (by rw [rk_len]; omega))
          have e4 : ((4 : Int) != 4) = false := by simp
          clear r0 r1 r2 r3 hcell5 hb5 HI W0 W1 HB1 HB B3 B1 RX FX M0 M1
          generalize (dd all).length = m at *
          go_wp2_with fail
          go_quiet (first
            | (go_at_call 16; refine Calls.quiet_of (calls_at (args := #[.slice au0 x0.length cu0, .slice au2 x0.length cu2]) rfl (S02.out _) (fun _ _ h => h)))
            | (go_at_call 16; refine Calls.quiet_of (calls_at (args := #[.slice au1 x1.length cu1, .slice au3 x1.length cu3]) rfl (S13.out _) (fun _ _ h => h))))
          clear k0 k1 k2 k3 e4
          go_wp2_with fail
          go_loop [89] (fun t => ∃ j : Nat, j ≤ 4 ∧ t = .int .i64 j) (fun t => 4 - (intOf t).toNat)
          case atStart => exact ⟨0, Nat.zero_le _, rfl⟩
          case round =>
            obtain ⟨j, hj, rfl⟩ := hrel
            by_cases hj4 : j < 4
            · obtain ⟨au, n, cu, kc, hn, hall⟩ := HROW.out j hj4
              have k1 : (w5.drewN nq).cell? ⟨b5, j, none⟩ = some (.slice au n cu) := kc
              have HA := Lib.hid hall
              clear kc hall
              go_wp2_with fail
              go_loop [95] (fun t => ∃ i : Nat, i ≤ n ∧ t = .int .i64 i) (fun t => n - (intOf t).toNat)
              case atStart => exact ⟨0, Nat.zero_le _, rfl⟩
              case round =>
                obtain ⟨i, hi, rfl⟩ := hrel
                by_cases hin : i < n
                · obtain ⟨g, p, rfl, hg, kp, p0, p1⟩ := HA.out i hin
                  have k2 : (w5.drewN nq).cell? ⟨g, i, none⟩ = some (.int .i64 p) := kp
                  have d1 : decide (p < 0) = false := decide_eq_false (by omega)
                  have d2 : decide ((m : Int) ≤ p) = false := decide_eq_false (by omega)
                  clear kp
                  go_wp2_with fail
                  go_round
                  case rel => exact ⟨i + 1, by omega, by go_num⟩
                  case measure => simp [intOf]; omega
                · obtain rfl : i = n := by omega
                  clear hin
                  go_wp2_with fail
                  go_round
                  case rel => exact ⟨j + 1, by omega, by go_num⟩
                  case measure => simp [intOf]; omega
            · obtain rfl : j = 4 := by omega
              clear hj4
              go_wp2_with fail
              go_ret
              exact ⟨rfl, below_drewN B5.out _⟩

set_option maxRecDepth 100000 in
theorem lifted (os : Os) (started : os.Started) (H : Type) (enc : TypeId × Value → H) :
    ReturnsInHanded {} Try.checked os 9 .any (Rows.tokenListsSpec.pre6 enc Try.prog Try.f9 Rows.tokenListsRow.domain false) (Rows.tokenListsSpec.post enc Try.prog Try.f9 false true false false) := by
  refine returnsInHanded_of_change_sized (C := Try.checked) own started (by kernel_rfl) Try.func9
    (ChangeSpec.witness6 (enc := enc) (C := Try.checked) false ⟨#[], #[.slice none 0 0, .slice none 0 0], []⟩ 8 (by kernel_rfl) (by kernel_rfl) (by kernel_rfl) (by kernel_rfl)) ?_
  intro W base args ds gs before hval0 hW hcnd hsz0 _
  have hval : ∀ (j : Nat) t v, Try.f9.params[j]? = some t → args[j]? = some v → Value.okWide Try.prog W .any base t v := hval0
  have hsz : (DataW.weightsEach Try.prog (Try.f9.params.toList ++ Rows.tokenListsSpec.plain.varTypes Try.prog) (ds ++ gs)).all (· ≤ reachBytes) = true := hsz0
  have hW' := hW
  obtain ⟨p, q, hA0, hV, rfl, hfz, hnd⟩ := hW
  have hA : DataW.TrodAll enc Try.prog W 0 (fun _ => true) true Try.f9.params.toList args.toList ds p := hA0
  rw [Try.params9] at hA hval hsz
  obtain ⟨v0, vs0, d0, ds0, p0, q0, hargs, rfl, rfl, h0, r0⟩ := trodAll_cons hA
  obtain ⟨v1, vs1, d1, ds1, p1, q1, rfl, rfl, rfl, h1, r1⟩ := trodAll_cons r0
  obtain ⟨rfl, rfl, rfl⟩ := trodAll_nil r1
  obtain rfl : args = #[v0, v1] := by cases args; simp_all
  obtain ⟨rfl, rfl⟩ := trodVars_none hV
  obtain ⟨s0, l0, c0, rfl⟩ := okWide_slice Try.underlying24 (hval 0 24 v0 rfl rfl)
  obtain ⟨s1, l1, c1, rfl⟩ := okWide_slice Try.underlying24 (hval 1 24 v1 rfl rfl)
  have hlt0 : ∀ x ∈ p0, x.block < W.heap.size := fun x hx => hW'.lt x (by simp [hx])
  obtain ⟨x0, w0, n0⟩ := rd_of h0 hlt0
  have hlt1 : ∀ x ∈ p1, x.block < W.heap.size := fun x hx => hW'.lt x (by simp [hx])
  obtain ⟨x1, w1, n1⟩ := rd_of h1 hlt1
  clear hA0 hval0 hsz0
  simp only [List.append_nil] at hW'
  refine (walk W _ x0 w0 n0 _ x1 w1 n1).mono fun e W' ⟨he, bel⟩ => ?_
  subst he
  exact ⟨_, rfl, _, _, _, [], _, [], hW', trodAll_mk1 (shut_bool Try.underlying4 _), (trodAll_cons_mk (Below.trod laidOut (by kernel_rfl) (of_decide_eq_true (by kernel_rfl)) h0 bel hlt0) (trodAll_cons_mk (Below.trod laidOut (by kernel_rfl) (of_decide_eq_true (by kernel_rfl)) h1 bel hlt1) trodAll_mk0)), rfl, bel.frame _, fun h => by cases h⟩

theorem over : Rows.tokenListsRow.holds Try.pinned (OpenSpec.ofChange Rows.tokenListsSpec) :=
  OpenClaim.holds_of_wide 9 Try.f9 rfl rfl rfl rfl rfl rfl rfl ⟨rfl, rfl, rfl, rfl, rfl⟩ rfl rfl rfl rfl rfl (by kernel_rfl) Try.func9 (by kernel_rfl)
    (of_decide_eq_true (by kernel_rfl)) (by unfold Func.isWrapper; first | (rw [if_pos (by decide +kernel)]; kernel_rfl) | (rw [if_neg (by decide +kernel)]; exact ⟨rfl, rfl⟩))
    (fun os started H enc _ => lifted os started H enc)

theorem proved : Rows.TokenListsSaid :=
  over
end Go.Proofs.Ytjhmjdacjaefaaa.tokenLists
