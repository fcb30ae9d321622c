/-
  CONTRACTS of the statements' own 'awake', of lines.Join, and of the document's Join and Split (emendationref02).
-/
import Derived.Test.YtkldndmmjgodbaaDoorLnList
import Derived.Lib.SlBytesRow
namespace Go.Proofs.YtkldndmmjgodbaaDoor.Ln
open Go.RowKit
set_option linter.unusedVariables false

set_option maxHeartbeats 800000 in
theorem awake_any (w : World) :
    Calls Tryd.prog 10 #[] w fun e w' => e = .returned (.bool true) ∧ Below w.heap.size w w' := by
  have hs := split_any (S [97, 13, 10, 98]) (by decide) w
  rw [S_list, show split [97, 13, 10, 98] = ([[97], [98]], false) from by decide] at hs
  have Hs : Hid (Calls Tryd.prog 12 #[.string ⟨#[97, 13, 10, 98]⟩] w fun e w' => ∃ v, e = .returned (.tuple #[v, .bool false]) ∧ w'.ownsRow w.heap.size 9 1 v 2 ([[97], [98]].map encStr) ∧ Below w.heap.size w w') := Lib.hid hs
  have hbk := fun w => blank_any (S [32, 9]) (by decide) w
  have Hk : Hid (∀ w, Calls Tryd.prog 17 #[.string ⟨#[32, 9]⟩] w fun e w' => e = .returned (.bool true) ∧ Below w.heap.size w w') := Lib.hid hbk
  have hrn := fun w => run_any (S [35, 35, 97]) (by decide) 35 w
  have Hr : Hid (∀ w, Calls Tryd.prog 20 #[.string ⟨#[35, 35, 97]⟩, .int .u8 35] w fun e w' => e = .returned (.int .i64 2) ∧ w = w') := Lib.hid hrn
  clear hs hbk hrn
  go_enter Tryd.func10, Tryd.ntmps10
  go_wp2_with fail
  refine Hs.out.mono ?_
  rintro e w1 ⟨v, rfl, hown, hb1⟩
  rcases hown.2 with ⟨_, h0⟩ | ⟨g, cap, cur, rfl, hB, hg, hn, hm, hsz, ht⟩
  · exact absurd h0 (by decide)
  have hc : w1.cell? ⟨g, 0, none⟩ = some (.string ⟨#[97]⟩) := by rw [hown.cellAt 0 (by decide)]; rfl
  have Hb := Lib.hid hb1
  have hgl : g < w1.heap.size := (Array.getElem?_eq_some_iff.1 hg).1
  clear hown hg ht hsz hB Hs hb1
  go_wp2_with fail
  refine (Hk.out _).mono ?_
  rintro e w2 ⟨rfl, hb2⟩
  have Hb2 := Lib.hid (Hb.out.trans (hb2.mono Hb.out.size))
  clear hb2
  go_wp2_with fail
  refine (Hr.out _).mono ?_
  rintro e w3 ⟨rfl, rfl⟩
  go_wp2_with fail
  go_ret
  exact ⟨rfl, Hb2.out⟩

theorem map_S (xs : List (List UInt8)) : (xs.map S).map (·.data.toList) = xs := by
  rw [List.map_map]
  conv => rhs; rw [← List.map_id xs]
  exact List.map_congr_left (fun x _ => S_list x)

theorem join_any (v : Value) (xs : List (List UInt8)) (e : Bool) (w : World) (h : Rd w v xs) (hf : fewB xs = true) :
    Calls Tryd.prog 15 #[v, .bool e] w fun r w' => r = .returned (.string (S (jn xs e))) ∧ Below w.heap.size w w' := by
  obtain ⟨ao, ca, rfl, hca, hax⟩ := h
  have hfe := few_of hf
  have hlen := jn_len 1000 xs false hfe.2
  have hl2 : (jn xs false).length ≤ 200200 := by have := hfe.1; omega
  have HC : Hid (Calls Tryd.prog 25 #[.slice ao xs.length ca, .string ⟨#[10]⟩] w fun r w' => r = .returned (.string (S (jn xs false))) ∧ Below w.heap.size w w') := by
    rcases hax with rfl | ⟨b, o, rfl, hlt, hcell⟩
    · exact Lib.hid ((Tryd.strings_Join_none ao ca ⟨#[10]⟩ w).mono fun r w' ⟨hr, hw⟩ => ⟨hr, hw ▸ Below.refl _ _⟩)
    · have := Tryd.strings_Join b o ca (xs.map S) ⟨#[10]⟩ w (fun j x hj => by
          rw [List.getElem?_map] at hj
          cases hx : xs[j]? with
          | none => rw [hx] at hj; simp at hj
          | some y => rw [hx] at hj; simp at hj; rw [← hj]; exact hcell j y hx) hlt (by rw [List.length_map]; have := hfe.1; omega) (by rw [List.length_map]; exact hca)
          (by rw [map_S]; show (Lib.join xs [10]).length ≤ _; rw [← jn_false]; omega)
      rw [List.length_map, map_S] at this
      refine Lib.hid (this.mono fun r w' ⟨hr, hw⟩ => ⟨?_, hw⟩)
      rw [hr, jn_false]
      rfl
  have hsz : (S (jn xs false)).size ≤ 200200 := by rw [S_size]; exact hl2
  have Hres : Hid (jn xs e = if e && decide (0 < xs.length) then jn xs false ++ [10] else jn xs false) := Lib.hid (by
    cases e with
    | false => rfl
    | true =>
      by_cases h0 : xs = []
      · subst h0; rfl
      · rw [decide_eq_true (List.length_pos_iff.2 h0)]; exact jn_true xs h0)
  have hx : xs.length ≤ 200 := hfe.1
  clear hax hfe hlen hl2 hf
  cases e with
  | false =>
    go_enter Tryd.func15, Tryd.ntmps15
    go_wp2_with fail
    refine HC.out.mono ?_
    rintro r w1 ⟨rfl, hb⟩
    have Hb := Lib.hid hb
    clear hb
    go_wp2_with fail
    go_ret
    exact ⟨rfl, Hb.out⟩
  | true =>
    by_cases h0 : 0 < xs.length
    · have Hr2 : Hid (S (jn xs true) = S (jn xs false) ++ ⟨#[10]⟩) := Lib.hid (by rw [Hres.out, decide_eq_true h0]; exact (S_app _ [10]).symm)
      have d0 : decide (0 < (xs.length : Int)) = true := decide_eq_true (by omega)
      clear Hres
      go_enter Tryd.func15, Tryd.ntmps15
      go_wp2_with fail
      refine HC.out.mono ?_
      rintro r w1 ⟨rfl, hb⟩
      have Hb := Lib.hid hb
      clear hb
      generalize S (jn xs false) = t at *
      go_wp2_with fail
      go_ret
      exact ⟨by rw [Hr2.out]; rfl, Hb.out⟩
    · have Hr2 : Hid (jn xs true = jn xs false) := Lib.hid (by rw [Hres.out, decide_eq_false h0]; rfl)
      have d0 : decide (0 < (xs.length : Int)) = false := decide_eq_false (by omega)
      clear Hres
      go_enter Tryd.func15, Tryd.ntmps15
      go_wp2_with fail
      refine HC.out.mono ?_
      rintro r w1 ⟨rfl, hb⟩
      have Hb := Lib.hid hb
      clear hb
      go_wp2_with fail
      go_ret
      exact ⟨by rw [Hr2.out]; rfl, Hb.out⟩

theorem drop_at {xs : List (List UInt8)} {k : Nat} (h : k < xs.length) : xs.drop k = xs[k] :: xs.drop (k + 1) := List.drop_eq_getElem_cons h

set_option maxHeartbeats 800000 in
theorem rjoin_any (v : Value) (xs : List (List UInt8)) (e : Bool) (w : World) (h : Rd w v xs) (hf : fewB xs = true) :
    Calls Tryd.prog 16 #[v, .bool e] w fun r w' => r = .returned (.string (S (jn xs e))) ∧ w = w' := by
  obtain ⟨ao, ca, rfl, hca, hax⟩ := h
  have hfe := few_of hf
  clear hf
  by_cases h0 : xs = []
  · have Hf : Hid (jn xs e = []) := Lib.hid (by rw [h0]; rfl)
    have hz : xs.length = 0 := by rw [h0]; rfl
    rw [hz]
    clear hax h0 hfe
    go_enter Tryd.func16, Tryd.ntmps16
    go_wp2_with fail
    go_loop [5, 9] (fun s i => s = .string (S []) ∧ i = .int .i64 0) (fun _ i => 0)
    case atStart => exact ⟨rfl, rfl⟩
    case round =>
      obtain ⟨rfl, rfl⟩ := hrel
      go_wp2_with fail
      go_ret
      exact ⟨by rw [Hf.out]; rfl, rfl⟩
  · rcases hax with hax | ⟨b1, o1, rfl, hb1, hc1⟩
    · exact absurd hax h0
    have H1 := Lib.hid hc1
    have H2 := Lib.hid hfe.2
    have hx : xs.length ≤ 200 := hfe.1
    clear hc1 h0 hfe
    go_enter Tryd.func16, Tryd.ntmps16
    go_wp2_with fail
    go_loop [5, 9] (fun s i => ∃ (k : Nat) (acc : List UInt8), k ≤ xs.length ∧ i = .int .i64 k ∧ s = .string (S acc) ∧ acc.length ≤ k * 1001 ∧ Hid (jn xs e = acc ++ jn (xs.drop k) e)) (fun _ i => xs.length - (intOf i).toNat)
    case atStart => exact ⟨0, [], Nat.zero_le _, rfl, rfl, Nat.zero_le _, Lib.hid (by simp)⟩
    case round =>
      obtain ⟨k, acc, hk, rfl, rfl, ha, HT⟩ := hrel
      have hs0 : (S acc).size ≤ 200200 := by rw [S_size]; omega
      by_cases hlt : k < xs.length
      · have k1 : w.cell? ⟨b1, o1 + k, none⟩ = some (.string (S xs[k])) := H1.out k _ (get_lt hlt)
        have hs1 : (S xs[k]).size ≤ 1000 := by rw [S_size]; exact H2.out _ (List.getElem_mem hlt)
        have hs2 : xs[k].length ≤ 1000 := H2.out _ (List.getElem_mem hlt)
        have hd := drop_at hlt
        have happ := S_app acc xs[k]
        have hs3 : (S acc ++ S xs[k]).size ≤ 201200 := by rw [ByteArray.size_append]; omega
        by_cases hn : k + 1 < xs.length
        · have HT2 : Hid (jn xs e = (acc ++ xs[k] ++ [10]) ++ jn (xs.drop (k + 1)) e) := Lib.hid (by
            rw [HT.out, hd, drop_at hn, jn_cons2]; simp)
          have d1 : decide ((k : Int) + 1 < (xs.length : Int)) = true := decide_eq_true (by omega)
          have Hap : Hid (S acc ++ S xs[k] ++ ⟨#[10]⟩ = S (acc ++ xs[k] ++ [10])) := Lib.hid (by rw [happ]; exact S_app _ [10])
          clear HT hd happ
          generalize xs[k] = x at *
          cases e with
          | true =>
            go_wp2_with fail
            go_round
            case rel => exact ⟨k + 1, _, by omega, by go_num, by rw [Hap.out], by simp; omega, HT2⟩
            case measure => simp [intOf]; omega
          | false =>
            go_wp2_with fail
            go_round
            case rel => exact ⟨k + 1, _, by omega, by go_num, by rw [Hap.out], by simp; omega, HT2⟩
            case measure => simp [intOf]; omega
        · have hd2 : xs.drop (k + 1) = [] := List.drop_eq_nil_of_le (by omega)
          have d1 : decide ((k : Int) + 1 < (xs.length : Int)) = false := decide_eq_false (by omega)
          cases e with
          | true =>
            have HT2 : Hid (jn xs true = (acc ++ xs[k] ++ [10]) ++ jn (xs.drop (k + 1)) true) := Lib.hid (by rw [HT.out, hd, hd2]; simp [jn])
            have Hap : Hid (S acc ++ S xs[k] ++ ⟨#[10]⟩ = S (acc ++ xs[k] ++ [10])) := Lib.hid (by rw [happ]; exact S_app _ [10])
            clear HT hd happ
            generalize xs[k] = x at *
            go_wp2_with fail
            go_round
            case rel => exact ⟨k + 1, _, by omega, by go_num, by rw [Hap.out], by simp; omega, HT2⟩
            case measure => simp [intOf]; omega
          | false =>
            have HT2 : Hid (jn xs false = (acc ++ xs[k]) ++ jn (xs.drop (k + 1)) false) := Lib.hid (by rw [HT.out, hd, hd2]; simp [jn])
            have Hap : Hid (S acc ++ S xs[k] = S (acc ++ xs[k])) := Lib.hid happ
            clear HT hd happ
            generalize xs[k] = x at *
            go_wp2_with fail
            go_round
            case rel => exact ⟨k + 1, _, by omega, by go_num, by rw [Hap.out], by simp; omega, HT2⟩
            case measure => simp [intOf]; omega
      · have Hf : Hid (jn xs e = acc) := Lib.hid (by rw [HT.out, List.drop_eq_nil_of_le (by omega)]; simp [jn])
        clear HT
        go_wp2_with fail
        go_ret
        exact ⟨by rw [Hf.out]; rfl, rfl⟩

theorem one_byte (w : World) (c : UInt8) :
    (convert 35 9 (.slice (some ⟨w.heap.size, 0, none⟩) 1 1)).run Tryd.prog (w.alloc (.cells #[.int .u8 c.toNat] 5)) = .ok (.string (S [c])) (w.alloc (.cells #[.int .u8 c.toNat] 5)) := by
  refine Lib.run_convert_whole (P := Tryd.prog) _ 35 5 9 Tryd.underlying35 Tryd.underlying5 Tryd.underlying9 w.heap.size 0 (S [c]) ?_ 1
  intro i hi
  obtain rfl : i = 0 := by have : i < 1 := hi; omega
  rw [Nat.zero_add, World.cell?_alloc_new]
  rfl

/-- The document's lines so far: the line that is open holds no end. -/
def Rr (s : ByteArray) (k : Nat) (line : List UInt8) (o : List (List UInt8)) : Prop :=
  split s.data.toList = (o ++ (ls line (s.data.toList.drop k)).1, (ls line (s.data.toList.drop k)).2) ∧ (13 : UInt8) ∉ line
theorem Rr.start (s : ByteArray) : Rr s 0 [] [] := ⟨by rw [List.drop_zero, List.nil_append]; rfl, by simp⟩
theorem Rr.on {s : ByteArray} {k : Nat} {line : List UInt8} {o : List (List UInt8)} (h : Rr s k line o) (hk : k < s.size) (h1 : s[k] ≠ 10) (h2 : s[k] ≠ 13) : Rr s (k + 1) (line ++ [s[k]]) o := by
  obtain ⟨h, hn⟩ := h
  rw [at_data s k hk, ls_on _ _ _ h1 h2] at h
  exact ⟨h, by simp [hn]; exact fun e => h2 e.symm⟩
theorem Rr.two {s : ByteArray} {k : Nat} {line : List UInt8} {o : List (List UInt8)} (h : Rr s k line o) (hk : k + 1 < s.size) (h1 : s[k] = 13) (h2 : s[k + 1] = 10) : Rr s (k + 2) [] (o ++ [(S line).data.toList]) := by
  obtain ⟨h, hn⟩ := h
  rw [at_data s k (by omega), at_data s (k + 1) hk, h1, h2, ls_two] at h
  exact ⟨by rw [h, S_list]; simp, by simp⟩
theorem Rr.cr {s : ByteArray} {k : Nat} {line : List UInt8} {o : List (List UInt8)} (h : Rr s k line o) (hk : k < s.size) (h1 : s[k] = 13) (h2 : ∀ h : k + 1 < s.size, s[k + 1] ≠ 10) : Rr s (k + 1) [] (o ++ [(S line).data.toList]) := by
  obtain ⟨h, hn⟩ := h
  have hh : (s.data.toList.drop (k + 1)).head? ≠ some 10 := by
    by_cases e : k + 1 < s.size
    · rw [head_at s _ e]; intro x; exact h2 e (Option.some.inj x)
    · rw [drop_all s _ e]; simp
  rw [at_data s k hk, h1, ls_cr _ _ hh] at h
  exact ⟨by rw [h, S_list]; simp, by simp⟩
theorem Rr.lf {s : ByteArray} {k : Nat} {line : List UInt8} {o : List (List UInt8)} (h : Rr s k line o) (hk : k < s.size) (h1 : s[k] = 10) : Rr s (k + 1) [] (o ++ [(S line).data.toList]) := by
  obtain ⟨h, hn⟩ := h
  rw [at_data s k hk, h1, ls_lf, strip_id line hn] at h
  exact ⟨by rw [h, S_list]; simp, by simp⟩
theorem Rr.stop {s : ByteArray} {k : Nat} {line : List UInt8} {o : List (List UInt8)} (h : Rr s k line o) (hk : ¬ k < s.size) : split s.data.toList = if line = [] then (o, true) else (o ++ [(S line).data.toList], false) := by
  obtain ⟨h, hn⟩ := h
  rw [drop_all s _ hk, ls] at h
  by_cases e : line = []
  · rw [if_pos e] at h ⊢; simpa using h
  · rw [if_neg e] at h ⊢; rw [S_list]; exact h

set_option maxHeartbeats 1600000 in
set_option maxRecDepth 100000 in
theorem rsplit_any (s : ByteArray) (hs : s.size ≤ 1000000) (w : World) :
    Calls Tryd.prog 13 #[.string s] w fun e w' => ∃ v, e = .returned (.tuple #[v, .bool (split s.data.toList).2]) ∧
      w'.ownsRow w.heap.size 9 1 v (split s.data.toList).1.length ((split s.data.toList).1.map encStr) ∧ Below w.heap.size w w' := by
  obtain ⟨i0, hi, hz0, hz1, hz2⟩ := info_parts infoS
  have H0 := Lib.hid (Rr.start s)
  go_enter Tryd.func13, Tryd.ntmps13
  go_wp2_with fail
  go_loopw [4, 5, 6, 7] (fun v l op i wr => ∃ (k : Nat) (line : List UInt8) (o : List (List UInt8)), k ≤ s.size ∧ o.length ≤ k ∧ line.length ≤ k ∧ i = .int .i64 k ∧ l = .string (S line) ∧ op = .bool (!line.isEmpty) ∧ wr.ownsRow w.heap.size 9 1 v o.length (o.map encStr) ∧ Below w.heap.size w wr ∧ Hid (Rr s k line o)) (fun _ _ _ i _ => s.size - (intOf i).toNat)
  case atStart => exact ⟨0, [], [], Nat.zero_le _, Nat.le_refl _, Nat.le_refl _, rfl, rfl, rfl, World.ownsRow_nil _ _ _ _, Below.refl _ _, H0⟩
  case round =>
    clear H0
    obtain ⟨k, line, o, hk, ho, hl, rfl, rfl, rfl, hown, hb, HR⟩ := hrel
    have hB := hb.size
    have hsl : (S line).size ≤ 1000000 := by rw [S_size]; omega
    by_cases hlt : k < s.size
    · by_cases h13 : s[k] = 13
      · have e1 : ((s[k].toNat : Int) == 13) = true := eq8 h13
        have e2 : ((s[k].toNat : Int) == 10) = false := ne8 (b := 10) (by rw [h13]; decide)
        by_cases hk1 : k + 1 < s.size
        · have d1 : decide ((k : Int) + 1 < (s.size : Int)) = true := decide_eq_true (by omega)
          by_cases h10 : s[k + 1] = 10
          · have e3 : ((s[k + 1].toNat : Int) == 10) = true := eq8 h10
            have HR2 := Lib.hid (HR.out.two hk1 h13 h10)
            clear h13 h10 HR
            go_wp2_with (at_builtin; refine wpList_append_own _ rfl _ _ 22 rfl w.heap.size 9 i0 (.string ⟨#[]⟩) 1 16 Tryd.underlying22 hi hz0 hz1 hz2 rfl (by decide) _ _ _ rfl (hown.alloc _) ⟨wr.heap.size, 0, none⟩ 1 1 [.string (S line)] rfl rfl news1 news2 (by unfold maxLen; omega) (by omega) (by simp; omega) ?_)
            intro v' w1 hown' hgrow _
            have R := own_push hown hb hB hown' hgrow
            have R1 := Lib.hid R.1
            have R2 := Lib.hid R.2
            clear R hown' hgrow hown hb
            go_wp2_with fail
            go_roundw
            case rel => exact ⟨k + 2, [], _, by omega, by simp; omega, by simp, by go_num, rfl, rfl, R1.out, R2.out, HR2⟩
            case measure => simp [intOf]; omega
          · have e3 : ((s[k + 1].toNat : Int) == 10) = false := ne8 h10
            have HR2 := Lib.hid (HR.out.cr hlt h13 (fun _ => h10))
            clear h13 h10 HR
            go_wp2_with (at_builtin; refine wpList_append_own _ rfl _ _ 22 rfl w.heap.size 9 i0 (.string ⟨#[]⟩) 1 16 Tryd.underlying22 hi hz0 hz1 hz2 rfl (by decide) _ _ _ rfl (hown.alloc _) ⟨wr.heap.size, 0, none⟩ 1 1 [.string (S line)] rfl rfl news1 news2 (by unfold maxLen; omega) (by omega) (by simp; omega) ?_)
            intro v' w1 hown' hgrow _
            have R := own_push hown hb hB hown' hgrow
            have R1 := Lib.hid R.1
            have R2 := Lib.hid R.2
            clear R hown' hgrow hown hb
            go_wp2_with fail
            go_roundw
            case rel => exact ⟨k + 1, [], _, by omega, by simp; omega, by simp, by go_num, rfl, rfl, R1.out, R2.out, HR2⟩
            case measure => simp [intOf]; omega
        · have d1 : decide ((k : Int) + 1 < (s.size : Int)) = false := decide_eq_false (by omega)
          have HR2 := Lib.hid (HR.out.cr hlt h13 (fun h => absurd h hk1))
          clear h13 HR
          go_wp2_with (at_builtin; refine wpList_append_own _ rfl _ _ 22 rfl w.heap.size 9 i0 (.string ⟨#[]⟩) 1 16 Tryd.underlying22 hi hz0 hz1 hz2 rfl (by decide) _ _ _ rfl (hown.alloc _) ⟨wr.heap.size, 0, none⟩ 1 1 [.string (S line)] rfl rfl news1 news2 (by unfold maxLen; omega) (by omega) (by simp; omega) ?_)
          intro v' w1 hown' hgrow _
          have R := own_push hown hb hB hown' hgrow
          have R1 := Lib.hid R.1
          have R2 := Lib.hid R.2
          clear R hown' hgrow hown hb
          go_wp2_with fail
          go_roundw
          case rel => exact ⟨k + 1, [], _, by omega, by simp; omega, by simp, by go_num, rfl, rfl, R1.out, R2.out, HR2⟩
          case measure => simp [intOf]; omega
      · have e1 : ((s[k].toNat : Int) == 13) = false := ne8 h13
        by_cases h10 : s[k] = 10
        · have e2 : ((s[k].toNat : Int) == 10) = true := eq8 h10
          have HR2 := Lib.hid (HR.out.lf hlt h10)
          clear h13 h10 HR
          go_wp2_with (at_builtin; refine wpList_append_own _ rfl _ _ 22 rfl w.heap.size 9 i0 (.string ⟨#[]⟩) 1 16 Tryd.underlying22 hi hz0 hz1 hz2 rfl (by decide) _ _ _ rfl (hown.alloc _) ⟨wr.heap.size, 0, none⟩ 1 1 [.string (S line)] rfl rfl news1 news2 (by unfold maxLen; omega) (by omega) (by simp; omega) ?_)
          intro v' w1 hown' hgrow _
          have R := own_push hown hb hB hown' hgrow
          have R1 := Lib.hid R.1
          have R2 := Lib.hid R.2
          clear R hown' hgrow hown hb
          go_wp2_with fail
          go_roundw
          case rel => exact ⟨k + 1, [], _, by omega, by simp; omega, by simp, by go_num, rfl, rfl, R1.out, R2.out, HR2⟩
          case measure => simp [intOf]; omega
        · have e2 : ((s[k].toNat : Int) == 10) = false := ne8 h10
          have HR2 := Lib.hid (HR.out.on hlt h10 h13)
          have hob := fun w => one_byte w s[k]
          have Hb := Lib.hid (hb.alloc hB (.cells #[.int .u8 (s[k].toNat : Int)] 5))
          have Ho := Lib.hid (hown.alloc (.cells #[.int .u8 (s[k].toNat : Int)] 5))
          have Hap := Lib.hid (S_app line [s[k]])
          have hs1 : (S [s[k]]).size ≤ 1 := by rw [S_size]; exact Nat.le_refl _
          clear h13 h10 hb hown HR
          go_wp2_with fail
          go_roundw
          case rel => exact ⟨k + 1, line ++ [s[k]], o, by omega, by omega, by simp; omega, by go_num, by rw [Hap.out], by simp, Ho.out, Hb.out, HR2⟩
          case measure => simp [intOf]; omega
    · have HS := HR.out.stop hlt
      by_cases he : line = []
      · rw [if_pos he] at HS
        rw [show (!line.isEmpty) = false by rw [he]; rfl]
        have HS2 := Lib.hid HS
        have Hb := Lib.hid hb
        have Ho := Lib.hid hown
        clear HS hb hown he HR
        go_wp2_with fail
        go_ret2
        rw [HS2.out]
        exact ⟨_, rfl, Ho.out, Hb.out⟩
      · rw [if_neg he] at HS
        rw [show (!line.isEmpty) = true by simpa using he]
        have HS2 := Lib.hid HS
        clear HS he HR
        go_wp2_with (at_builtin; refine wpList_append_own _ rfl _ _ 22 rfl w.heap.size 9 i0 (.string ⟨#[]⟩) 1 16 Tryd.underlying22 hi hz0 hz1 hz2 rfl (by decide) _ _ _ rfl (hown.alloc _) ⟨wr.heap.size, 0, none⟩ 1 1 [.string (S line)] rfl rfl news1 news2 (by unfold maxLen; omega) (by omega) (by simp; omega) ?_)
        intro v' w1 hown' hgrow _
        have R := own_push hown hb hB hown' hgrow
        have R1 := Lib.hid R.1
        have R2 := Lib.hid R.2
        clear R hown' hgrow hown hb
        go_wp2_with fail
        go_ret2
        rw [HS2.out]
        exact ⟨_, rfl, R1.out, R2.out⟩

end Go.Proofs.YtkldndmmjgodbaaDoor.Ln
