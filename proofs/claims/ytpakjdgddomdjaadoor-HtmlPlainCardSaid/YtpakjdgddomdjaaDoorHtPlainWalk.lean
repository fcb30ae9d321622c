/-
  THE WALK of the statement HtmlPlain; written by gen_plain.py.
-/
import Derived.Test.YtpakjdgddomdjaaDoorHtSmall
import Derived.Test.YtpakjdgddomdjaaDoorSpCut
import Derived.Test.YtpakjdgddomdjaaDoorSpHelp
import Derived.Lib.AppendZeros
namespace Go.Proofs.YtpakjdgddomdjaaDoor.Ht
open Go.RowKit
open Go.Proofs.YtpakjdgddomdjaaDoor.Tk (S S_of S_list S_size S_toList S_app Rd)
open Go.Proofs.YtpakjdgddomdjaaDoor.Cm (alloc_new)
open Go.Proofs.YtpakjdgddomdjaaDoor.Sp (Sp Tr totAll Acc encT plAll)
open Go.Proofs.YtpakjdgddomdjaaDoor.Bk (Tx)
set_option linter.unusedVariables false

/-- A text as a span, as it lies. -/
def txP (s : Tx) : Sp × Value := (.mk 1 s [], .slice none 0 0)
def fl : List Tx → Tx
  | [] => []
  | s :: r => s ++ fl r
theorem fl_app : ∀ a b : List Tx, fl (a ++ b) = fl a ++ fl b
  | [], _ => rfl
  | s :: a, b => by rw [List.cons_append, fl, fl, fl_app a b, List.append_assoc]
theorem fl_take (xs : List Tx) (k : Nat) (h : k < xs.length) : fl (xs.take (k + 1)) = fl (xs.take k) ++ xs[k] := by
  rw [List.take_succ_eq_append_getElem h, fl_app]
  simp [fl]
theorem hs_tx : ∀ xs : List Tx, hsAll ((xs.map txP).map (·.1)) = he (fl xs)
  | [] => by simp [hsAll, fl, he]
  | s :: r => by
    rw [List.map_cons, List.map_cons, hsAll_cons, hs_tx r, fl, he_app, hsOne_eq]
    congr 1
    show bg 1 ++ (mid 1 s (hsAll []) ++ en 1) = he s
    unfold bg mid en
    simp
theorem pl_tx : ∀ xs : List Tx, plAll ((xs.map txP).map (·.1)) = fl xs
  | [] => rfl
  | s :: r => by
    rw [List.map_cons, List.map_cons, Sp.plAll_cons, pl_tx r, fl, Sp.plOne_eq]
    congr 1
    show (if (1 : Int) = 1 ∨ (1 : Int) = 2 then s else []) ++ plAll [] = s
    rw [if_pos (Or.inl rfl)]
    unfold plAll
    rw [List.append_nil]
theorem tot_tx : ∀ xs : List Tx, totAll ((xs.map txP).map (·.1)) = xs.length + (fl xs).length
  | [] => by simp [totAll, fl]
  | s :: r => by
    rw [List.map_cons, List.map_cons, Sp.totAll_cons, tot_tx r, fl, List.length_cons, List.length_append, Sp.totOne_eq]
    show 1 + s.length + totAll [] + _ = _
    unfold totAll
    omega
theorem tx_kids (xs : List Tx) (w : World) : ∀ p ∈ xs.map txP, Tr w p.2 p.1.kids := by
  intro p hp
  obtain ⟨s, _, rfl⟩ := List.mem_map.1 hp
  exact Sp.tr_nil w
/-- One more text, appended. -/
theorem push_tx {w0 w : World} {v : Value} {xs : List Tx} (h : Acc w0 w v (xs.map txP)) (s : Tx) (hl : xs.length ≤ 1000) :
    ∃ v' w', (∀ ty, (Builtin.append_ #[23, 23] ty #[v, .slice (some ⟨w.heap.size, 0, none⟩) 1 1]).run Tryd.prog (w.alloc (.cells #[.int .i64 1, .string (S s), .slice none 0 0] 37)) = .ok v' w') ∧ Acc w0 w' v' ((xs ++ [s]).map txP) := by
  have ha := h.alloc (.cells #[.int .i64 1, .string (S s), .slice none 0 0] 37)
  obtain ⟨v', w', h1, h2, h3⟩ := Sp.run_append_sp ha.own (Sp.one_rk (p := txP s) (alloc_new w _) rfl) (fun p hp => by
    rw [List.mem_singleton] at hp
    subst hp
    exact Sp.tr_nil _) ha.bel.size (by simp; omega)
  refine ⟨v', w', h1, ⟨ha.bel.grown h3 ha.bel.size (fun k hk => (ha.own.lt k hk).1), ?_⟩⟩
  rw [List.map_append]
  exact h2
set_option maxHeartbeats 6400000 in
set_option maxRecDepth 100000 in
theorem htmlPlain_walk (w : World) (vx : Value) (xs : List Tx) (rx : Rd w vx xs) (nx : xs.length ≤ 9223372036854775807) :
    Calls Tryd.prog 7 #[vx] w (BoolA w true) := by
  have HA := Lib.hid awake14_any
  have RX := Lib.hid rx
  unfold BoolA at HA ⊢
  obtain ⟨ax, cx, rfl⟩ := rx.len
  have HAp := Lib.hid (fun (k : Nat) (hk : k < xs.length) => List.take_succ_eq_append_getElem hk)
  have HFt := Lib.hid (fl_take xs)
  have HTl := Lib.hid (List.take_of_length_le (Nat.le_refl xs.length))
  clear rx
  go_enter Tryd.func7, Tryd.ntmps7
  go_wp2_with fail
  refine (HA.out _).mono ?_
  rintro e w2 ⟨rfl, b2⟩
  have H2 := Lib.hid b2
  clear b2
  by_cases hz : 40 < xs.length
  · have g1 : decide ((40 : Int) < (xs.length : Int)) = true := decide_eq_true (by omega)
    have g2 : decide ((xs.length : Int) > 40) = true := decide_eq_true (by omega)
    clear HAp HFt RX HTl
    go_wp2_with fail
    refine (HA.out _).mono ?_
    rintro e w9 ⟨rfl, b9⟩
    have H9 := Lib.hid (H2.out.trans (b9.mono H2.out.size))
    clear b9
    go_wp2_with fail
    go_ret
    exact ⟨rfl, H9.out⟩
  have g1 : decide ((40 : Int) < (xs.length : Int)) = false := decide_eq_false (by omega)
  have g2 : decide ((xs.length : Int) > 40) = false := decide_eq_false (by omega)
  have H0 : Hid (Acc w w2 (.slice none 0 0) ((xs.take 0).map txP)) := Lib.hid ⟨H2.out, World.ownsRow_nil _ _ _ _⟩
  have e0 : fl (xs.take 0) = [] := by rw [List.take_zero]; rfl
  have eS : S [] = ⟨#[]⟩ := rfl
  clear HA H2
  go_wp2_with fail
  go_loopw [3, 4, 17] (fun v av i wr => ∃ k : Nat, k ≤ xs.length ∧ (fl (xs.take k)).length ≤ 100 * k ∧ i = .int .i64 k ∧ av = .string (S (fl (xs.take k))) ∧ Hid (Acc w wr v ((xs.take k).map txP))) (fun _ _ i _ => xs.length - (intOf i).toNat)
  case atStart => exact ⟨0, Nat.zero_le _, by rw [e0]; exact Nat.zero_le _, rfl, by rw [e0, eS], H0⟩
  case round =>
    clear H0 e0
    obtain ⟨k, hk, hA, rfl, rfl, HN⟩ := hrel
    by_cases hlt : k < xs.length
    · have hi1 : (k : Int) < (xs.length : Int) := by omega
      obtain ⟨bb, o, rfl, c0⟩ := Bt.Rd.at (RX.out.below HN.out.bel) k hlt
      have zs : (S xs[k]).size = xs[k].length := S_size _
      have hB := Lib.hid HN.out.bel
      by_cases hs : 100 < xs[k].length
      · have g3 : decide ((100 : Int) < ((S xs[k]).size : Int)) = true := decide_eq_true (by omega)
        have g4 : decide (((S xs[k]).size : Int) > 100) = true := decide_eq_true (by omega)
        clear HN HAp HFt HTl
        go_wp2_with fail
        go_ret
        exact ⟨rfl, hB.out⟩
      · have g3 : decide ((100 : Int) < ((S xs[k]).size : Int)) = false := decide_eq_false (by omega)
        have g4 : decide (((S xs[k]).size : Int) > 100) = false := decide_eq_false (by omega)
        have hft := HFt.out k hlt
        have zA : (S (fl (xs.take k))).size = (fl (xs.take k)).length := S_size _
        have gg : ¬ 9223372036854775807 < (S (fl (xs.take k))).size + (S xs[k]).size := by omega
        have hap : Hid (S (fl (xs.take k)) ++ S xs[k] = S (fl (xs.take (k + 1)))) := Lib.hid (by rw [hft, S_app])
        have hA2 : (fl (xs.take (k + 1))).length ≤ 100 * (k + 1) := by rw [hft, List.length_append]; omega
        obtain ⟨v', w', hr, hacc⟩ := push_tx HN.out xs[k] (by rw [List.length_take]; omega)
        rw [← HAp.out k hlt] at hacc
        have HN2 := Lib.hid hacc
        have c1 : w'.cell? ⟨bb, o + k, none⟩ = some (.string (S xs[k])) := by
          obtain ⟨bb', o', hao, c1⟩ := Bt.Rd.at (RX.out.below hacc.bel) k hlt
          simp only [Option.some.injEq, Addr.mk.injEq, and_true] at hao
          obtain ⟨rfl, rfl⟩ := hao
          exact c1
        clear HN HAp HFt HTl hft hacc hB hA
        generalize S xs[k] = sk at *
        go_wp2_with (at_builtin; refine Lib.wpList_append_run _ rfl _ _ _ _ rfl _ _ rfl rfl _ _ (hr _) ?_)
        go_roundw
        case rel => exact ⟨k + 1, by omega, hA2, by go_num, by rw [hap.out], HN2⟩
        case measure => simp [intOf] <;> omega
    · obtain rfl : k = xs.length := by omega
      have hn := HN.out
      rw [HTl.out] at hn hA
      have hT := Sp.Tr.of_own hn.own (tx_kids xs wr)
      have htt := tot_tx xs
      have hB := Lib.hid hn.bel
      have hel := he_len (fl xs)
      have HS := Lib.hid (spansH_any _ _ wr hT (by rw [hs_tx]; omega))
      have HP := Lib.hid (fun w' (h : Below wr.heap.size wr w') => Sp.rplain_any (totAll ((xs.map txP).map (·.1))) _ _ w' (Nat.le_refl _) (by omega) (hT.below h))
      have HE := Lib.hid (escP_any (S (fl xs)) (by rw [S_size]; omega))
      rw [hs_tx] at HS
      simp only [pl_tx] at HP
      rw [S_list] at HE
      have zA : (S (fl xs)).size = (fl xs).length := S_size _
      have zE : (S (he (fl xs))).size = (he (fl xs)).length := S_size _
      have g5 : decide (((S (he (fl xs))).size : Int) ≥ ((S (fl xs)).size : Int)) = true := decide_eq_true (by omega)
      have g6 : decide (((S (fl xs)).size : Int) ≤ ((S (he (fl xs))).size : Int)) = true := decide_eq_true (by omega)
      have g7 : decide ((S (fl xs)).size ≤ (S (he (fl xs))).size) = true := decide_eq_true (by omega)
      have ht : xs.take xs.length = xs := HTl.out
      rw [ht]
      clear HN HAp HFt hn hT htt hel RX hA HTl ht zA zE
      generalize S (fl xs) = sa at *
      generalize S (he (fl xs)) = se at *
      go_wp2_with fail
      refine HS.out.mono ?_
      rintro e w5 ⟨rfl, b5⟩
      have H5 := Lib.hid b5
      have HB5 := Lib.hid (hB.out.trans (b5.mono hB.out.size))
      clear b5 HS
      go_wp2_with fail
      refine (HE.out _).mono ?_
      rintro e w6 ⟨rfl, b6⟩
      have H6 := Lib.hid (H5.out.trans (b6.mono H5.out.size))
      have HB6 := Lib.hid (HB5.out.trans (b6.mono HB5.out.size))
      clear b6
      go_wp2_with fail
      refine (HP.out _ H6.out).mono ?_
      rintro e w7 ⟨rfl, rfl⟩
      go_wp2_with fail
      refine (HE.out _).mono ?_
      rintro e w7 ⟨rfl, b7⟩
      have HB7 := Lib.hid (HB6.out.trans (b7.mono HB6.out.size))
      clear b7
      go_wp2_with fail
      go_ret
      exact ⟨rfl, HB7.out⟩
end Go.Proofs.YtpakjdgddomdjaaDoor.Ht
