/-
  The card of LinesEnds: for every input the law returns true, and each argument reads afterwards as it read before; the package-level variables that the row lists are tied to the program's text (the walk reads none of them). No other condition.
-/
import Derived.Test.YtkldndmmjgodbaaDoorRows
import Derived.Test.YtkldndmmjgodbaaDoorCards
import Derived.Test.YtkldndmmjgodbaaDoorTie
import Derived.Test.YtkldndmmjgodbaaDoorLnMore
import Derived.Test.YtkldndmmjgodbaaDoorLnFrame
import Derived.WalkKit
import Derived.ProofKit
import Derived.OpenShut
import Derived.ShutString
import Derived.SizedLaws
import Derived.Lay
import Derived.SevenTiedAt
import Derived.Laws.AppendOwnNone
namespace Go.Proofs.YtkldndmmjgodbaaDoor.linesEnds
open Go.ChangeShapes Go.WideShapes Go.ChangeAt Go.RowKit
open Go.ChangeMaps (open_string shut_string)
open Go.Proofs.YtkldndmmjgodbaaDoor.Ln
set_option linter.unusedVariables false

theorem own : ownKnob Tryd.prog.godebug = none := by kernel_rfl

/-- A line without ends in it. -/
def okB (b : UInt8) : Bool := b != 10 && b != 13
def clean (l : List UInt8) : List UInt8 := l.filter okB
theorem clean_no (l : List UInt8) : (10 : UInt8) ∉ clean l ∧ (13 : UInt8) ∉ clean l := by
  constructor <;> (intro h; have := (List.mem_filter.1 h).2; revert this; decide)
theorem clean_len (l : List UInt8) : (clean l).length ≤ l.length := List.length_filter_le _ _
theorem clean_next (x : ByteArray) (k : Nat) (h : k < x.size) : clean (x.data.toList.take (k + 1)) = if okB x[k] then clean (x.data.toList.take k) ++ [x[k]] else clean (x.data.toList.take k) := by
  rw [List.take_add_one, List.getElem?_eq_getElem (by rw [len_data]; exact h)]
  show List.filter okB (x.data.toList.take k ++ [x[k]]) = _
  rw [List.filter_append]
  cases hb : okB x[k] with
  | true => simp [hb, clean]
  | false => simp [hb, clean]
/-- Lines with ends, one behind the other. -/
def G (xs : List (List UInt8)) (e : Nat → List UInt8) : Nat → List UInt8
  | 0 => []
  | k + 1 => G xs e k ++ (clean (xs.getD k []) ++ e k)
theorem G_succ (xs : List (List UInt8)) (e : Nat → List UInt8) (k : Nat) : G xs e (k + 1) = G xs e k ++ (clean (xs.getD k []) ++ e k) := rfl
theorem app_split (T r : List UInt8) (h : T = [] ∨ ∃ T', T = T' ++ [10]) : split (T ++ r) = ((split T).1 ++ (split r).1, (split r).2) := by
  rcases h with rfl | ⟨T', rfl⟩
  · show split r = _
    simp [split, ls]
  · have := (ls_parts r T' []).1
    rw [List.append_assoc]
    exact this
theorem one_split (x e : List UInt8) (he : e = [10] ∨ e = [13, 10] ∨ e = [13]) : split (clean x ++ e) = ([clean x], true) := by
  obtain ⟨h1, h2⟩ := clean_no x
  unfold split
  rw [ls_run _ _ _ h1 h2, List.nil_append]
  rcases he with rfl | rfl | rfl
  · rw [ls_lf, strip_id _ h2]; rfl
  · rw [ls_two]; rfl
  · rw [ls_cr _ _ (by simp)]; rfl
theorem split_G (xs : List (List UInt8)) (e : Nat → List UInt8) (he : ∀ i, i < xs.length → e i = [10] ∨ e i = [13, 10] ∨ (e i = [13] ∧ i + 1 = xs.length)) :
    ∀ k, k ≤ xs.length → split (G xs e k) = ((xs.take k).map clean, true) ∧ (k < xs.length → G xs e k = [] ∨ ∃ T', G xs e k = T' ++ [10])
  | 0, _ => ⟨by simp [G, split, ls], fun _ => Or.inl rfl⟩
  | k + 1, hk => by
    obtain ⟨ih1, ih2⟩ := split_G xs e he k (by omega)
    have hx : xs.getD k [] = xs[k] := by rw [List.getD_eq_getElem?_getD, List.getElem?_eq_getElem (by omega)]; rfl
    have hek := he k (by omega)
    constructor
    · rw [G_succ, app_split _ _ (ih2 (by omega)), ih1, one_split _ _ (by rcases hek with h | h | h <;> simp [h]), List.take_add_one, List.getElem?_eq_getElem (by omega), hx]
      show (_, true) = (List.map clean (xs.take k ++ [xs[k]]), true)
      rw [List.map_append]
      rfl
    · intro hlt
      right
      rw [G_succ]
      rcases hek with h | h | ⟨_, h⟩
      · exact ⟨G xs e k ++ clean (xs.getD k []), by rw [h]; simp⟩
      · exact ⟨G xs e k ++ clean (xs.getD k []) ++ [13], by rw [h]; simp⟩
      · omega
theorem G_len (xs : List (List UInt8)) (e : Nat → List UInt8) (hx : ∀ x ∈ xs, x.length ≤ 1000) (he : ∀ i, (e i).length ≤ 2) : ∀ k, k ≤ xs.length → (G xs e k).length ≤ k * 1002
  | 0, _ => by simp [G]
  | k + 1, hk => by
    have ih := G_len xs e hx he k (by omega)
    have h1 : xs.getD k [] = xs[k] := by rw [List.getD_eq_getElem?_getD, List.getElem?_eq_getElem (by omega)]; rfl
    have h2 := hx _ (List.getElem_mem (show k < xs.length by omega))
    have h3 := clean_len xs[k]
    have h4 := he k
    rw [G_succ, h1]
    simp only [List.length_append]
    omega
def ea : Nat → List UInt8 := fun _ => [10]
def eb (ks : List Int) (n : Nat) : Nat → List UInt8 := fun i =>
  if i < ks.length ∧ (ks.getD i 0) % 3 = 1 then [13, 10] else if (i < ks.length ∧ (ks.getD i 0) % 3 = 2) ∧ i + 1 = n then [13] else [10]
theorem eb_ok (ks : List Int) (n i : Nat) : eb ks n i = [10] ∨ eb ks n i = [13, 10] ∨ (eb ks n i = [13] ∧ i + 1 = n) := by
  unfold eb
  split
  · simp
  · split
    · rename_i h; exact Or.inr (Or.inr ⟨rfl, h.2⟩)
    · simp
theorem eb_len (ks : List Int) (n i : Nat) : (eb ks n i).length ≤ 2 := by
  rcases eb_ok ks n i with h | h | ⟨h, _⟩ <;> rw [h] <;> decide
theorem ext_one (x : ByteArray) (k : Nat) (h : k < x.size) : x.extract k (k + 1) = S [x[k]] := by
  have h1 := cur_snoc x k k (Nat.le_refl _) h
  rw [cur_same] at h1
  rw [← S_of (x.extract k (k + 1))]
  show S (cur x k (k + 1)) = _
  rw [h1]
  rfl

theorem slice1 (x : ByteArray) (m : Nat) (h : m + 1 ≤ x.size) (w : World) :
    (Instr.slice 9 (.string x) (some (.int .i64 (m : Int))) (some (.int .i64 ((m : Int) + 1))) none).run Tryd.prog w = .ok (.string (x.extract m (m + 1))) w := by
  have h1 : m ≤ m + 1 := Nat.le_succ m
  have e : ((m : Int) + 1) = ((m + 1 : Nat) : Int) := rfl
  rw [e]
  generalize m + 1 = j at *
  have u := Tryd.underlying9
  go_simp

set_option maxRecDepth 100000 in
set_option maxHeartbeats 3200000 in
theorem walk (w : World) (a0 : Value) (x0 : List (List UInt8)) (w0 : Rd w a0 x0) (n0 : x0.length ≤ 9223372036854775807) (a1 : Value) (x1 : List Int) (w1 : RdB w a1 x1) :
    Calls Tryd.prog 6 #[a0, a1] w fun e w' => e = .returned (.bool true) ∧ Below w.heap.size w w' := by
  have Hrd := Lib.hid w0
  have Hkd := Lib.hid w1
  have hfew := fun (w' : World) (h : Below w.heap.size w w') => few_any a0 x0 w' (Rd.below Hrd.out h) n0
  obtain ⟨ao, cap, hva, hcap, hax⟩ := w0
  subst hva
  obtain ⟨ko, kcap, hkv, hkm, hkr, hkx⟩ := w1
  subst hkv
  have Hf := Lib.hid hfew
  have HA := Lib.hid hax
  have HK := Lib.hid hkx
  have HR := Lib.hid hkr
  clear hfew hax hkx hkr
  cases hfe : fewB x0 with
  | false =>
    rw [hfe] at Hf
    go_enter Tryd.func6, Tryd.ntmps6
    go_wp2_with fail
    refine (awake_any _).mono ?_
    rintro e w1 ⟨rfl, hb⟩
    have B1 := Lib.hid hb
    clear hb
    go_wp2_with fail
    refine (Hf.out _ B1.out).mono ?_
    rintro e w2 ⟨rfl, rfl⟩
    go_wp2_with fail
    refine (awake_any _).mono ?_
    rintro e w2 ⟨rfl, hb2⟩
    have B2 := Lib.hid (B1.out.trans (hb2.mono B1.out.size))
    clear hb2
    go_wp2_with fail
    go_ret
    exact ⟨rfl, B2.out⟩
  | true =>
    rw [hfe] at Hf
    have Hfe := Lib.hid hfe
    have hx200 := (few_of hfe).1
    have H1000 := Lib.hid (few_of hfe).2
    clear hfe
    have HGa := Lib.hid (G_len x0 ea H1000.out (fun _ => Nat.le_succ 1))
    have HGb := Lib.hid (G_len x0 (eb x1 x0.length) H1000.out (eb_len _ _))
    go_enter Tryd.func6, Tryd.ntmps6
    go_wp2_with fail
    refine (awake_any _).mono ?_
    rintro e w1 ⟨rfl, hb⟩
    have B1 := Lib.hid hb
    clear hb
    go_wp2_with fail
    refine (Hf.out _ B1.out).mono ?_
    rintro e w2 ⟨rfl, rfl⟩
    go_wp2_with fail
    go_loop [5, 6, 25] (fun a b i => ∃ k : Nat, k ≤ x0.length ∧ i = .int .i64 k ∧ a = .string (S (G x0 ea k)) ∧ b = .string (S (G x0 (eb x1 x0.length) k))) (fun _ _ i => x0.length - (intOf i).toNat)
    case atStart => exact ⟨0, Nat.zero_le _, rfl, rfl, rfl⟩
    case round =>
      obtain ⟨k, hk, rfl, rfl, rfl⟩ := hrel
      have ga : (S (G x0 ea k)).size ≤ 200400 := by rw [S_size]; have := HGa.out k hk; omega
      have gb : (S (G x0 (eb x1 x0.length) k)).size ≤ 200400 := by rw [S_size]; have := HGb.out k hk; omega
      by_cases hkl : k < x0.length
      · rcases HA.out with hax | ⟨b, o, rfl, hlt, hcell⟩
        · rw [hax] at hkl; exact absurd hkl (Nat.not_lt_zero _)
        have k1 : w1.cell? ⟨b, o + k, none⟩ = some (.string (S x0[k])) := (B1.out.cell (by exact hlt)).trans (hcell k _ (get_lt hkl))
        have hs1 : (S x0[k]).size ≤ 1000 := by rw [S_size]; exact H1000.out _ (List.getElem_mem hkl)
        have HNa : Hid (S (G x0 ea (k + 1)) = S (G x0 ea k) ++ S (clean (S x0[k]).data.toList) ++ ⟨#[10]⟩) := Lib.hid (by
          rw [G_succ, show x0.getD k [] = x0[k] by rw [List.getD_eq_getElem?_getD, List.getElem?_eq_getElem hkl]; rfl, S_list, S_app, show (⟨#[10]⟩ : ByteArray) = S [10] from rfl, S_app, List.append_assoc]; rfl)
        have HNb : Hid (S (G x0 (eb x1 x0.length) (k + 1)) = S (G x0 (eb x1 x0.length) k) ++ S (clean (S x0[k]).data.toList) ++ S (eb x1 x0.length k)) := Lib.hid (by
          rw [G_succ, show x0.getD k [] = x0[k] by rw [List.getD_eq_getElem?_getD, List.getElem?_eq_getElem hkl]; rfl, S_list, S_app, S_app, List.append_assoc])
        clear hcell
        generalize S (G x0 ea k) = pa at *
        generalize S (G x0 (eb x1 x0.length) k) = pb at *
        generalize S x0[k] = x at *
        go_wp2_with fail
        go_loop [8, 33] (fun l j => ∃ m : Nat, m ≤ x.size ∧ j = .int .i64 m ∧ l = .string (S (clean (x.data.toList.take m)))) (fun _ j => x.size - (intOf j).toNat)
        case atStart => exact ⟨0, Nat.zero_le _, rfl, rfl⟩
        case round =>
          obtain ⟨m, hm, rfl, rfl⟩ := hrel
          have hcl : (S (clean (x.data.toList.take m))).size ≤ 1000 := by rw [S_size]; exact Nat.le_trans (clean_len _) (Nat.le_trans (List.length_take_le _ _) (by omega))
          by_cases hml : m < x.size
          · have hnx := clean_next x m hml
            cases hok : okB x[m] with
            | true =>
              rw [hok, if_pos rfl] at hnx
              have hb2 : x[m] ≠ 10 ∧ x[m] ≠ 13 := by simpa [okB] using hok
              have q1 : ((x[m].toNat : Int) != 10) = true := bne_iff_ne.2 (beq_eq_false_iff_ne.1 (ne8 (b := 10) hb2.1))
              have q2 : ((x[m].toNat : Int) != 13) = true := bne_iff_ne.2 (beq_eq_false_iff_ne.1 (ne8 (b := 13) hb2.2))
              have HX := Lib.hid (ext_one x m hml)
              have hxs : (x.extract m (m + 1)).size ≤ 1 := by rw [HX.out, S_size]; exact Nat.le_refl _
              have HN := Lib.hid hnx
              have m1 : m + 1 ≤ x.size := hml
              have hsl := slice1 x m hml
              clear hnx hok hb2
              go_wp2_with fail
              go_round
              case rel => exact ⟨m + 1, by omega, by go_num, by rw [HN.out, HX.out, S_app]⟩
              case measure => simp [intOf]; omega
            | false =>
              rw [hok, if_neg (by decide)] at hnx
              have HN := Lib.hid hnx
              by_cases h10 : x[m] = 10
              · have q1 : ((x[m].toNat : Int) != 10) = false := by rw [h10]; rfl
                clear hnx hok h10
                go_wp2_with fail
                go_round
                case rel => exact ⟨m + 1, by omega, by go_num, by rw [HN.out]⟩
                case measure => simp [intOf]; omega
              · have h13 : x[m] = 13 := by
                  have : x[m] = 10 ∨ x[m] = 13 := by simpa [okB, Decidable.or_iff_not_imp_left] using hok
                  exact this.resolve_left h10
                have q1 : ((x[m].toNat : Int) != 10) = true := by rw [h13]; rfl
                have q2 : ((x[m].toNat : Int) != 13) = false := by rw [h13]; rfl
                clear hnx hok h10 h13
                go_wp2_with fail
                go_round
                case rel => exact ⟨m + 1, by omega, by go_num, by rw [HN.out]⟩
                case measure => simp [intOf]; omega
          · have htk : x.data.toList.take m = x.data.toList := List.take_of_length_le (by rw [len_data]; omega)
            rw [htk] at hcl ⊢
            clear htk
            generalize S (clean x.data.toList) = ln at *
            have za : (pa ++ ln).size ≤ 201400 := by rw [ByteArray.size_append]; omega
            have zb : (pb ++ ln).size ≤ 201400 := by rw [ByteArray.size_append]; omega
            by_cases hkx : k < x1.length
            · rcases HK.out with hkx0 | ⟨b2, o2, rfl, hlt2, hcell2⟩
              · rw [hkx0] at hkx; exact absurd hkx (Nat.not_lt_zero _)
              have kk : w1.cell? ⟨b2, o2 + k, none⟩ = some (.int .u8 x1[k]) := (B1.out.cell (by exact hlt2)).trans (hcell2 k _ (List.getElem?_eq_getElem hkx))
              have hkr := HR.out _ (List.getElem_mem hkx)
              have hgd : x1.getD k 0 = x1[k] := by rw [List.getD_eq_getElem?_getD, List.getElem?_eq_getElem hkx]; rfl
              have d1 : decide (k < x1.length) = true := decide_eq_true hkx
              have d1' : decide ((k : Int) < (x1.length : Int)) = true := decide_eq_true (by omega)
              have hebs : eb x1 x0.length k = if x1[k] % 3 = 1 then [13, 10] else if x1[k] % 3 = 2 ∧ k + 1 = x0.length then [13] else [10] := by
                unfold eb
                rw [hgd]
                simp only [hkx, true_and]
              have htm : x1[k].tmod 3 = x1[k] % 3 := Int.tmod_eq_emod_of_nonneg hkr.1
              clear hcell2 hgd
              generalize x1[k] = kv at *
              have h3 : kv % 3 = 0 ∨ kv % 3 = 1 ∨ kv % 3 = 2 := by omega
              rcases h3 with h3 | h3 | h3
              · rw [h3] at htm hebs
                rw [show eb x1 x0.length k = [10] from hebs] at HNb
                clear hebs h3
                go_wp2_with fail
                go_round
                case rel => exact ⟨k + 1, by omega, by go_num, by rw [HNa.out], by rw [HNb.out]; rfl⟩
                case measure => simp [intOf]; omega
              · rw [h3] at htm hebs
                rw [show eb x1 x0.length k = [13, 10] from hebs] at HNb
                clear hebs h3
                go_wp2_with fail
                go_round
                case rel => exact ⟨k + 1, by omega, by go_num, by rw [HNa.out], by rw [HNb.out]; rfl⟩
                case measure => simp [intOf]; omega
              · rw [h3] at htm hebs
                by_cases hla : k + 1 = x0.length
                · rw [if_neg (by decide), if_pos ⟨rfl, hla⟩] at hebs
                  rw [hebs] at HNb
                  have e5 : ((k : Int) == (x0.length : Int) - 1) = true := beq_iff_eq.2 (by omega)
                  clear hebs h3
                  go_wp2_with fail
                  go_round
                  case rel => exact ⟨k + 1, by omega, by go_num, by rw [HNa.out], by rw [HNb.out]; rfl⟩
                  case measure => simp [intOf]; omega
                · rw [if_neg (by decide), if_neg (fun h => hla h.2)] at hebs
                  rw [hebs] at HNb
                  have e5 : ((k : Int) == (x0.length : Int) - 1) = false := beq_eq_false_iff_ne.2 (by omega)
                  clear hebs h3
                  go_wp2_with fail
                  go_round
                  case rel => exact ⟨k + 1, by omega, by go_num, by rw [HNa.out], by rw [HNb.out]; rfl⟩
                  case measure => simp [intOf]; omega
            · have d1 : decide (k < x1.length) = false := decide_eq_false hkx
              have d1' : decide ((k : Int) < (x1.length : Int)) = false := decide_eq_false (by omega)
              have hebs : eb x1 x0.length k = [10] := by
                unfold eb
                rw [if_neg (fun h => hkx h.1), if_neg (fun h => hkx h.1.1)]
              rw [hebs] at HNb
              clear hebs
              go_wp2_with fail
              go_round
              case rel => exact ⟨k + 1, by omega, by go_num, by rw [HNa.out], by rw [HNb.out]; rfl⟩
              case measure => simp [intOf]; omega
      · have hka : k = x0.length := by omega
        have hsa := split_any (S (G x0 ea k)) (by omega)
        have hsb := split_any (S (G x0 (eb x1 x0.length) k)) (by omega)
        rw [S_list, (split_G x0 ea (fun i _ => Or.inl rfl) k hk).1, List.take_of_length_le (by omega)] at hsa
        rw [S_list, (split_G x0 (eb x1 x0.length) (fun i _ => eb_ok _ _ i) k hk).1, List.take_of_length_le (by omega)] at hsb
        have hlm : (x0.map clean).length = x0.length := List.length_map ..
        have hll : (x0.map clean).length ≤ 1000000 := by omega
        have Hsa := Lib.hid hsa
        have Hsb := Lib.hid hsb
        have Hlm := Lib.hid hlm
        have Hll := Lib.hid hll
        clear hsa hsb hka hlm hll
        generalize S (G x0 ea k) = pa at *
        generalize S (G x0 (eb x1 x0.length) k) = pb at *
        generalize x0.map clean = cl at *
        go_wp2_with fail
        refine (Hsa.out _).mono ?_
        rintro e w2 ⟨vx, rfl, hown, hb⟩
        have RX := Lib.hid (Rd.of_own (xs := cl) hown)
        have B2 := Lib.hid (B1.out.trans (hb.mono B1.out.size))
        clear hown hb
        obtain ⟨xo, xc, rfl⟩ := RX.out.len
        go_wp2_with fail
        refine (Hsb.out _).mono ?_
        rintro e w3 ⟨vy, rfl, hown, hb⟩
        have RX3 := Lib.hid (RX.out.below hb)
        have RY := Lib.hid (Rd.of_own (xs := cl) hown)
        have B3 := Lib.hid (B2.out.trans (hb.mono B2.out.size))
        clear hown hb
        go_wp2_with fail
        refine (same_any _ vy cl cl _ RX3.out RY.out Hll.out Hll.out).mono ?_
        rintro e w4 ⟨rfl, hb⟩
        rw [decide_eq_true rfl]
        have B4 := Lib.hid (B3.out.trans (hb.mono B3.out.size))
        have e9 : ((cl.length : Int) == (x0.length : Int)) = true := by rw [Hlm.out]; simp
        clear hb
        go_wp2_with fail
        go_ret
        exact ⟨rfl, B4.out⟩

set_option maxRecDepth 100000 in
theorem lifted (os : Os) (started : os.Started) (H : Type) (enc : TypeId × Value → H) :
    ReturnsInHanded {} Tryd.checked os 6 .any (fun w args => (Rows.linesEndsSpec.pre enc Tryd.prog Tryd.f6 Rows.linesEndsRow.domain false w args ∧ laidMetH Tryd.prog Rows.linesEndsRow.laid w) ∧ sizedMet enc Tryd.prog Tryd.f6 (OpenSpec.ofChange Rows.linesEndsSpec) false w args)
      (Rows.linesEndsSpec.post enc Tryd.prog Tryd.f6 false true false false) := by
  refine returnsInHanded_of_change_and (C := Tryd.checked) (X := fun w _ => laidMetH Tryd.prog Rows.linesEndsRow.laid w) (fun _ _ _ hh h => h.of_heap hh) own started (by kernel_rfl) Tryd.func6
    (ChangeSpec.witness_shaped (enc := enc) (C := Tryd.checked) (os := os) (X := fun w _ => laidMetH Tryd.prog Rows.linesEndsRow.laid w) false (World.laidAll Tryd.prog os Rows.linesEndsRow.laid) #[.slice none 0 0, .slice none 0 0] 8 (World.laidAll_os _ _ _)
      (World.shaped_of_ZipB (by kernel_rfl) (by kernel_rfl)) (by kernel_rfl) (by kernel_rfl) (by kernel_rfl)
      (by rw [MakeChecks.laidMetH_plain _ _ _ (by kernel_rfl)]; exact laidMet_laidAll _ (by kernel_rfl) (by kernel_rfl))) ?_
  intro W base args ds gs before hval0 hW hcnd hsz0 hL _
  have hval : ∀ (j : Nat) t v, Tryd.f6.params[j]? = some t → args[j]? = some v → Value.okWide Tryd.prog W .any base t v := hval0
  have hsz : (DataW.weightsEach Tryd.prog (Tryd.f6.params.toList ++ Rows.linesEndsSpec.plain.varTypes Tryd.prog) (ds ++ gs)).all (· ≤ reachBytes) = true := hsz0
  have hW' := hW
  obtain ⟨p, q, hA0, hV, rfl, hfz, hnd⟩ := hW
  have hA : DataW.TrodAll enc Tryd.prog W 0 (fun _ => true) true Tryd.f6.params.toList args.toList ds p := hA0
  rw [Tryd.params6] at hA hval hsz
  obtain ⟨v0, vs0, d0, ds0, p0, q0, hargs, rfl, rfl, h0, r0⟩ := trodAll_cons hA
  obtain ⟨v1, vs1, d1, ds1, p1, q1, rfl, rfl, rfl, h1, r1⟩ := trodAll_cons r0
  obtain ⟨rfl, rfl, rfl⟩ := trodAll_nil r1
  obtain rfl : args = #[v0, v1] := by cases args; simp_all
  obtain ⟨rfl, rfl⟩ := trodVars_none hV
  obtain ⟨s0, l0, c0, rfl⟩ := okWide_slice Tryd.underlying22 (hval 0 22 v0 rfl rfl)
  obtain ⟨s1, l1, c1, rfl⟩ := okWide_slice Tryd.underlying35 (hval 1 35 v1 rfl rfl)
  have hlt0 : ∀ x ∈ p0, x.block < W.heap.size := fun x hx => hW'.lt x (by simp [hx])
  obtain ⟨x0, w0, n0⟩ := rd_of h0 hlt0
  have hlt1 : ∀ x ∈ p1, x.block < W.heap.size := fun x hx => hW'.lt x (by simp [hx])
  obtain ⟨x1, w1⟩ := rdb_of h1 hlt1
  clear hA0 hval0 hsz0
  simp only [List.append_nil] at hW'
  refine (walk W _ x0 w0 n0 _ x1 w1).mono fun e W' ⟨he, bel⟩ => ?_
  subst he
  exact ⟨_, rfl, _, _, _, [], _, [], hW', trodAll_mk1 (shut_bool Tryd.underlying4 _), (trodAll_cons_mk (Below.trod laidOut (by kernel_rfl) (of_decide_eq_true (by kernel_rfl)) h0 bel hlt0) (trodAll_cons_mk (Below.trod laidOut (by kernel_rfl) (of_decide_eq_true (by kernel_rfl)) h1 bel hlt1) trodAll_mk0)), rfl, bel.frame _, fun h => by cases h⟩

theorem over : Rows.linesEndsRow.holds Tryd.pinned (OpenSpec.ofChange Rows.linesEndsSpec) :=
  OpenClaim.holds_of_wide 6 Tryd.f6 rfl rfl rfl rfl rfl rfl rfl ⟨rfl, rfl, rfl, rfl, rfl⟩ rfl rfl rfl rfl rfl (by kernel_rfl) Tryd.func6 (by kernel_rfl)
    (of_decide_eq_true (by kernel_rfl)) (by unfold Func.isWrapper; first | (rw [if_pos (by decide +kernel)]; kernel_rfl) | (rw [if_neg (by decide +kernel)]; exact ⟨rfl, rfl⟩))
    (fun os started H enc _ => lifted os started H enc)

theorem card : Rows.LinesEndsCardSaid :=
  Claim7.holds_tied_plain_at .later [] [.data, .pinned] true _ false over (fun _ h => by cases h) (by kernel_rfl) (fun _ h => by cases h) linesEnds_row_tie rfl ⟨rfl, rfl⟩ (by kernel_rfl) rfl
    (fun f fn hf hfn => by
      obtain rfl : f = 6 := Option.some.inj ((show Tryd.prog.funcNamed Rows.linesEndsRow.func = some 6 by kernel_rfl).symm.trans hf) |>.symm
      obtain rfl : fn = Tryd.f6 := (Option.some.inj (Tryd.func6.symm.trans hfn)).symm
      exact ⟨by kernel_rfl, fun j t ht => by
        rw [Tryd.params6] at ht
        have hm : t ∈ [22, 35] := by simpa using Array.mem_of_getElem? ht
        have hall : ([22, 35].all fun u => !Tryd.prog.wantsStandIn u) = true := by kernel_rfl
        exact (show Tryd.prog.wantsStandIn t = false by simpa using List.all_eq_true.1 hall t hm)⟩)
    (by kernel_rfl)
end Go.Proofs.YtkldndmmjgodbaaDoor.linesEnds
