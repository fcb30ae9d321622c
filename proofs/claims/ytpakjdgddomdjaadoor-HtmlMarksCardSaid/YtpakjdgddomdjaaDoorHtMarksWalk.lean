/-
  THE WALK of the statement HtmlMarks; written by gen_marks.py.
-/
import Derived.Test.YtpakjdgddomdjaaDoorHtSmall
namespace Go.Proofs.YtpakjdgddomdjaaDoor.Ht
open Go.RowKit
open Go.Proofs.YtpakjdgddomdjaaDoor.Tk (S S_of S_list S_size S_toList S_app eq8 ne8 at_data len_data drop_all)
open Go.Proofs.YtpakjdgddomdjaaDoor.Cm (alloc_new cell_at)
open Go.Proofs.YtpakjdgddomdjaaDoor.Bk (Tx)
set_option linter.unusedVariables false

/-- The four words, and what they stand for. -/
def ws : Nat → Tx
  | 0 => [38, 97, 109, 112, 59]
  | 1 => [38, 108, 116, 59]
  | 2 => [38, 103, 116, 59]
  | _ => [38, 113, 117, 111, 116, 59]
def sg : Nat → UInt8
  | 0 => 38
  | 1 => 60
  | 2 => 62
  | _ => 34
theorem ws_len : ∀ q, 4 ≤ (ws q).length ∧ (ws q).length ≤ 6
  | 0 => by decide
  | 1 => by decide
  | 2 => by decide
  | _ + 3 => ⟨by show 4 ≤ 6; omega, by show 6 ≤ 6; omega⟩
theorem ws_head : ∀ q, ∃ t, ws q = 38 :: t
  | 0 => ⟨_, rfl⟩
  | 1 => ⟨_, rfl⟩
  | 2 => ⟨_, rfl⟩
  | _ + 3 => ⟨_, rfl⟩
theorem nm_sg : ∀ q, nm (sg q) = ws q
  | 0 => rfl
  | 1 => rfl
  | 2 => rfl
  | _ + 3 => rfl
/-- No other word stands where one stands. -/
theorem ws_other (r : Tx) (k q : Nat) (hk : k < 4) (hq : q < 4) (h : k ≠ q) : (ws q ++ r).take (ws k).length ≠ ws k := by
  have : ∀ k q : Fin 4, k ≠ q → (ws q ++ r).take (ws k).length ≠ ws k := by
    intro k q
    match k, q with
    | 0, 0 => intro h; exact absurd rfl h
    | 1, 1 => intro h; exact absurd rfl h
    | 2, 2 => intro h; exact absurd rfl h
    | 3, 3 => intro h; exact absurd rfl h
    | 0, 1 => intro _; simp [ws]
    | 0, 2 => intro _; simp [ws]
    | 0, 3 => intro _; simp [ws]
    | 1, 0 => intro _; simp [ws]
    | 1, 2 => intro _; simp [ws]
    | 1, 3 => intro _; simp [ws]
    | 2, 0 => intro _; simp [ws]
    | 2, 1 => intro _; simp [ws]
    | 2, 3 => intro _; simp [ws]
    | 3, 0 => intro _; simp [ws]
    | 3, 1 => intro _; simp [ws]
    | 3, 2 => intro _; simp [ws]
  exact this ⟨k, hk⟩ ⟨q, hq⟩ (fun e => h (congrArg Fin.val e))
theorem four_or (c : UInt8) : (∃ q, q < 4 ∧ c = sg q) ∨ (c ≠ 38 ∧ c ≠ 60 ∧ c ≠ 62 ∧ c ≠ 34) := by
  by_cases h0 : c = 38
  · exact Or.inl ⟨0, by omega, h0⟩
  by_cases h1 : c = 60
  · exact Or.inl ⟨1, by omega, h1⟩
  by_cases h2 : c = 62
  · exact Or.inl ⟨2, by omega, h2⟩
  by_cases h3 : c = 34
  · exact Or.inl ⟨3, by omega, h3⟩
  exact Or.inr ⟨h0, h1, h2, h3⟩
theorem ws_cells (w : World) (k : Nat) (hk : k < 4) : (w.alloc (.cells #[.string ⟨#[38, 97, 109, 112, 59]⟩, .string ⟨#[38, 108, 116, 59]⟩, .string ⟨#[38, 103, 116, 59]⟩, .string ⟨#[38, 113, 117, 111, 116, 59]⟩] 9)).cell? ⟨w.heap.size, k, none⟩ = some (.string (S (ws k))) := by
  have hA := alloc_new w (.cells #[.string ⟨#[38, 97, 109, 112, 59]⟩, .string ⟨#[38, 108, 116, 59]⟩, .string ⟨#[38, 103, 116, 59]⟩, .string ⟨#[38, 113, 117, 111, 116, 59]⟩] 9)
  rw [cell_at hA]
  match k, hk with
  | 0, _ => rfl
  | 1, _ => rfl
  | 2, _ => rfl
  | 3, _ => rfl
theorem sg_slice (q : Nat) (hq : q < 4) (w : World) :
    (Instr.slice 9 (.string ⟨#[38, 60, 62, 34]⟩) (some (.int .i64 (q : Int))) (some (.int .i64 ((q : Int) + 1))) none).run Tryd.prog w = .ok (.string (S [sg q])) w := by
  have h := sliceS ⟨#[38, 60, 62, 34]⟩ q (q + 1) (Nat.le_succ q) (show q + 1 ≤ 4 by omega) w
  have hx : (⟨#[38, 60, 62, 34]⟩ : ByteArray).extract q (q + 1) = S [sg q] := by
    rw [ext_S]
    congr 1
    match q, hq with
    | 0, _ => rfl
    | 1, _ => rfl
    | 2, _ => rfl
    | 3, _ => rfl
  rw [hx, show ((q + 1 : Nat) : Int) = (q : Int) + 1 by omega] at h
  exact h
theorem he_nil {l : Tx} (h : he l = []) : l = [] := by
  have := (he_len l).1
  rw [h] at this
  exact List.eq_nil_of_length_eq_zero (by simpa using this)
/-- What is escaped, from a place on. -/
def AtE (s E : Tx) (j n : Nat) : Prop := E.drop n = he (s.drop j) ∧ j ≤ s.length
theorem AtE.step {s E : Tx} {j n : Nat} (h : AtE s E j n) (hn : n < E.length) : ∃ hj : j < s.length, E.drop n = nm s[j] ++ he (s.drop (j + 1)) ∧ AtE s E (j + 1) (n + (nm s[j]).length) := by
  obtain ⟨h1, h2⟩ := h
  have hj : j < s.length := by
    rcases Nat.lt_or_ge j s.length with hj | hj
    · exact hj
    · rw [List.drop_eq_nil_of_le hj] at h1
      have := congrArg List.length h1
      rw [List.length_drop] at this
      simp [he] at this
      omega
  have e : E.drop n = nm s[j] ++ he (s.drop (j + 1)) := by rw [h1, List.drop_eq_getElem_cons hj, he_cons]
  refine ⟨hj, e, ?_, hj⟩
  rw [← List.drop_drop, e, List.drop_left]
set_option maxHeartbeats 6400000 in
set_option maxRecDepth 100000 in
theorem htmlMarks_walk (w : World) (s : ByteArray) (ws0 : s.size ≤ maxLen) (rs : s.size ≤ reachBytes) :
    Calls Tryd.prog 5 #[.string s] w (BoolA w true) := by
  have HA := Lib.hid awake14_any
  unfold BoolA at HA ⊢
  by_cases hz : 2000 < s.size
  · have g1 : decide ((2000 : Int) < (s.size : Int)) = true := decide_eq_true (by omega)
    have g2 : decide ((s.size : Int) > 2000) = true := decide_eq_true (by omega)
    go_enter Tryd.func5, Tryd.ntmps5
    go_wp2_with fail
    refine (HA.out _).mono ?_
    rintro e w2 ⟨rfl, b2⟩
    have H2 := Lib.hid b2
    clear b2
    go_wp2_with fail
    refine (HA.out _).mono ?_
    rintro e w9 ⟨rfl, b9⟩
    have H9 := Lib.hid (H2.out.trans (b9.mono H2.out.size))
    clear b9
    go_wp2_with fail
    go_ret
    exact ⟨rfl, H9.out⟩
  have g1 : decide ((2000 : Int) < (s.size : Int)) = false := decide_eq_false (by omega)
  have g2 : decide ((s.size : Int) > 2000) = false := decide_eq_false (by omega)
  have HE := Lib.hid (escP_any s (by omega))
  obtain ⟨E, hE⟩ : ∃ E, he s.data.toList = E := ⟨_, rfl⟩
  have hel := (he_len s.data.toList).2
  rw [len_data, hE] at hel
  have lE : E.length ≤ 12000 := by omega
  rw [hE] at HE
  have zE : (S E).size = E.length := S_size _
  have H0 : Hid (AtE s.data.toList E 0 0) := Lib.hid ⟨by rw [List.drop_zero, List.drop_zero, hE], Nat.zero_le _⟩
  have HAt := Lib.hid (at_data (S E))
  rw [S_list] at HAt
  have HSl := Lib.hid (sliceS (S E))
  have HX := Lib.hid (ext_S (S E))
  rw [S_list] at HX
  have HSo := Lib.hid (S_of s)
  have eS : S [] = ⟨#[]⟩ := rfl
  clear hE hel ws0 rs
  go_enter Tryd.func5, Tryd.ntmps5
  go_wp2_with fail
  refine (HA.out _).mono ?_
  rintro e w2 ⟨rfl, b2⟩
  have H2 := Lib.hid b2
  clear b2 HA
  go_wp2_with fail
  refine (HE.out _).mono ?_
  rintro e w3 ⟨rfl, b3⟩
  have H3 := Lib.hid (H2.out.trans (b3.mono H2.out.size))
  clear b3 HE H2
  go_wp2_with fail
  go_loopw [4, 5] (fun bv i wr => ∃ j n : Nat, n ≤ E.length ∧ i = .int .i64 n ∧ bv = .string (S (s.data.toList.take j)) ∧ Hid (AtE s.data.toList E j n) ∧ j ≤ s.size ∧ Hid (Below w.heap.size w wr)) (fun _ i _ => E.length - (intOf i).toNat)
  case atStart => exact ⟨0, 0, Nat.zero_le _, rfl, by rw [List.take_zero, eS], H0, Nat.zero_le _, H3⟩
  case round =>
    clear H0 H3
    obtain ⟨j, n, hn, rfl, rfl, HN, hjs, HB⟩ := hrel
    by_cases hlt : n < E.length
    · have hi1 : (n : Int) < (E.length : Int) := by omega
      have hi2 : n < (S E).size := by omega
      obtain ⟨hj, hd, hnx⟩ := HN.out.step hlt
      have hat := HAt.out n hi2
      rw [hd] at hat
      have hjl : j < s.size := by rw [← len_data]; exact hj
      have htk : s.data.toList.take (j + 1) = s.data.toList.take j ++ [s.data.toList[j]] := List.take_succ_eq_append_getElem hj
      have ltk : (s.data.toList.take j).length = j := by rw [List.length_take, len_data]; omega
      generalize s.data.toList[j] = c at *
      rcases four_or c with ⟨q, hq, rfl⟩ | ⟨h1, h2, h3, h4⟩
      · rw [nm_sg] at hat hnx hd
        obtain ⟨t38, ht38⟩ := ws_head q
        have hlen := ws_len q
        rw [ht38] at hat
        have hcb : (S E)[n] = 38 := by simpa using (List.cons.inj hat).1.symm
        have e60 : (((S E)[n].toNat : Int) == 60) = false := ne8 (b := 60) (by rw [hcb]; decide)
        have e62 : (((S E)[n].toNat : Int) == 62) = false := ne8 (b := 62) (by rw [hcb]; decide)
        have e34 : (((S E)[n].toNat : Int) == 34) = false := ne8 (b := 34) (by rw [hcb]; decide)
        have e38 : (((S E)[n].toNat : Int) == 38) = true := eq8 (b := 38) hcb
        have hle := congrArg List.length hd
        rw [List.length_drop, List.length_append] at hle
        have zT : (S (s.data.toList.take j)).size = j := by rw [S_size]; exact ltk
        have zc : (S [sg q]).size = 1 := S_size _
        have gg : ¬ 9223372036854775807 < (S (s.data.toList.take j)).size + (S [sg q]).size := by omega
        have hap : Hid (S (s.data.toList.take j) ++ S [sg q] = S (s.data.toList.take (j + 1))) := Lib.hid (by rw [htk, S_app])
        have HN2 : Hid (AtE s.data.toList E (j + 1) (n + (ws q).length)) := Lib.hid hnx
        have HWk : Hid (∀ k, k < 4 → k ≠ q → n + (ws k).length ≤ E.length → ∃ sx, (∀ w', (Instr.slice 9 (.string (S E)) (some (.int .i64 (n : Int))) (some (.int .i64 ((n : Int) + ((ws k).length : Int)))) none).run Tryd.prog w' = .ok (.string sx) w') ∧ (sx.toList == (S (ws k)).toList) = false) := Lib.hid (fun k hk hne hl => by
          refine ⟨S ((E.drop n).take (ws k).length), fun w' => ?_, ?_⟩
          · have h := HSl.out n (n + (ws k).length) (Nat.le_add_right _ _) (by rw [zE]; exact hl) w'
            rw [HX.out, Nat.add_sub_cancel_left, show ((n + (ws k).length : Nat) : Int) = (n : Int) + ((ws k).length : Int) by omega] at h
            exact h
          · rw [S_toList, S_toList, beq_eq_false_iff_ne, hd]
            exact ws_other _ k q hk hq hne)
        have HWq : Hid (∀ w', (Instr.slice 9 (.string (S E)) (some (.int .i64 (n : Int))) (some (.int .i64 ((n : Int) + ((ws q).length : Int)))) none).run Tryd.prog w' = .ok (.string (S (ws q))) w') := Lib.hid (fun w' => by
          have h := HSl.out n (n + (ws q).length) (Nat.le_add_right _ _) (by rw [zE]; omega) w'
          rw [HX.out, Nat.add_sub_cancel_left, hd, List.take_left, show ((n + (ws q).length : Nat) : Int) = (n : Int) + ((ws q).length : Int) by omega] at h
          exact h)
        have HCc := Lib.hid (ws_cells wr)
        have HSg := Lib.hid (sg_slice q hq)
        have HBa := Lib.hid (HB.out.alloc HB.out.size (.cells #[.string ⟨#[38, 97, 109, 112, 59]⟩, .string ⟨#[38, 108, 116, 59]⟩, .string ⟨#[38, 103, 116, 59]⟩, .string ⟨#[38, 113, 117, 111, 116, 59]⟩] 9))
        have HZk := Lib.hid (fun k => S_size (ws k))
        have HLk := Lib.hid ws_len
        clear hat hnx hd hcb HN HAt HSl HX HSo htk ltk ht38 HB
        go_upto_region 14 with fail
        generalize wr.alloc (.cells #[.string ⟨#[38, 97, 109, 112, 59]⟩, .string ⟨#[38, 108, 116, 59]⟩, .string ⟨#[38, 103, 116, 59]⟩, .string ⟨#[38, 113, 117, 111, 116, 59]⟩] 9) = w5 at *
        go_loop [4, 5, 6, 54] (fun bv iv fv kv => ∃ k : Nat, k ≤ 4 ∧ kv = .int .i64 k ∧ ((k ≤ q ∧ bv = .string (S (s.data.toList.take j)) ∧ iv = .int .i64 n ∧ fv = .bool false) ∨ (q < k ∧ bv = .string (S (s.data.toList.take (j + 1))) ∧ iv = .int .i64 (n + (ws q).length - 1 : Nat) ∧ fv = .bool true))) (fun _ _ _ kv => 4 - (intOf kv).toNat)
        case atStart => exact ⟨0, by omega, rfl, Or.inl ⟨Nat.zero_le _, rfl, rfl, rfl⟩⟩
        case round =>
          obtain ⟨k, hk, rfl, hst⟩ := hrel
          by_cases hk4 : k < 4
          · have hi3 : (k : Int) < 4 := by omega
            have ck := HCc.out k hk4
            have zk := HZk.out k
            have lk := HLk.out k
            generalize hwk : (ws k).length = mk at *
            rcases hst with ⟨hkq, rfl, rfl, rfl⟩ | ⟨hkq, rfl, rfl, rfl⟩
            · have wr1 : IntKind.i64.wrap ((n : Int) + (mk : Int)) = (n : Int) + (mk : Int) := by rw [IntKind.wrap_i64]; omega
              by_cases hkk : k = q
              · subst hkk
                have hsl := HWq.out
                rw [hwk] at hsl hle HN2
                have g3 : decide ((n : Int) + (mk : Int) ≤ (E.length : Int)) = true := decide_eq_true (by omega)
                have hsg := HSg.out
                have wr2 : IntKind.i64.wrap ((mk : Int) - 1) = (mk : Int) - 1 := by rw [IntKind.wrap_i64]; omega
                have wr3 : IntKind.i64.wrap ((n : Int) + ((mk : Int) - 1)) = (n : Int) + ((mk : Int) - 1) := by rw [IntKind.wrap_i64]; omega
                clear HWk HWq HCc HSg HZk HLk
                go_wp2_with fail
                go_round
                case rel => exact ⟨k + 1, by omega, by go_num, Or.inr ⟨by omega, by rw [hap.out], by rw [hwk]; go_num, rfl⟩⟩
                case measure => simp [intOf] <;> omega
              · by_cases hl : n + mk ≤ E.length
                · obtain ⟨sx, hsl, hne⟩ := HWk.out k hk4 hkk (by rw [hwk]; exact hl)
                  rw [hwk] at hsl
                  have g3 : decide ((n : Int) + (mk : Int) ≤ (E.length : Int)) = true := decide_eq_true (by omega)
                  clear HWk HWq HCc HSg HZk HLk
                  go_wp2_with fail
                  go_round
                  case rel => exact ⟨k + 1, by omega, by go_num, Or.inl ⟨by omega, rfl, rfl, rfl⟩⟩
                  case measure => simp [intOf] <;> omega
                · have g3 : decide ((n : Int) + (mk : Int) ≤ (E.length : Int)) = false := decide_eq_false (by omega)
                  clear HWk HWq HCc HSg HZk HLk
                  go_wp2_with fail
                  go_round
                  case rel => exact ⟨k + 1, by omega, by go_num, Or.inl ⟨by omega, rfl, rfl, rfl⟩⟩
                  case measure => simp [intOf] <;> omega
            · clear HWk HWq HCc HSg HZk HLk
              go_wp2_with fail
              go_round
              case rel => exact ⟨k + 1, by omega, by go_num, Or.inr ⟨by omega, rfl, rfl, rfl⟩⟩
              case measure => simp [intOf] <;> omega
          · have hi3 : ¬ (k : Int) < 4 := by omega
            rcases hst with ⟨hkq, rfl, rfl, rfl⟩ | ⟨hkq, rfl, rfl, rfl⟩
            · omega
            · clear HWk HWq HCc HSg HZk HLk
              go_wp2_with fail
              go_roundw
              case rel => exact ⟨j + 1, n + (ws q).length, by omega, by go_num, rfl, HN2, by omega, HBa⟩
              case measure => simp [intOf] <;> omega
      · have hnm := nm_no h1 h2 h3 h4
        rw [hnm] at hat hnx hd
        have hcb : (S E)[n] = c := by simpa using (List.cons.inj hat).1.symm
        have e60 : (((S E)[n].toNat : Int) == 60) = false := ne8 (b := 60) (by rw [hcb]; exact h2)
        have e62 : (((S E)[n].toNat : Int) == 62) = false := ne8 (b := 62) (by rw [hcb]; exact h3)
        have e34 : (((S E)[n].toNat : Int) == 34) = false := ne8 (b := 34) (by rw [hcb]; exact h4)
        have e38 : (((S E)[n].toNat : Int) == 38) = false := ne8 (b := 38) (by rw [hcb]; exact h1)
        have hsl := HSl.out n (n + 1) (Nat.le_succ n) (by omega)
        rw [HX.out, hd, Nat.add_sub_cancel_left, show ((n + 1 : Nat) : Int) = (n : Int) + 1 by omega] at hsl
        have et : ([c] ++ he (s.data.toList.drop (j + 1))).take 1 = [c] := rfl
        rw [et] at hsl
        have zT : (S (s.data.toList.take j)).size = j := by rw [S_size]; exact ltk
        have zc : (S [c]).size = 1 := S_size _
        have gg : ¬ 9223372036854775807 < (S (s.data.toList.take j)).size + (S [c]).size := by omega
        have hap : Hid (S (s.data.toList.take j) ++ S [c] = S (s.data.toList.take (j + 1))) := Lib.hid (by rw [htk, S_app])
        have HN2 : Hid (AtE s.data.toList E (j + 1) (n + 1)) := Lib.hid hnx
        clear hat hnx hd hnm hcb HN HAt HSl HX HSo htk ltk et h1 h2 h3 h4
        go_wp2_with fail
        go_roundw
        case rel => exact ⟨j + 1, n + 1, by omega, by go_num, by rw [hap.out], HN2, by omega, HB⟩
        case measure => simp [intOf] <;> omega
    · have hi1 : ¬ (n : Int) < (E.length : Int) := by omega
      have hfin : S (s.data.toList.take j) = s := by
        have h1 := HN.out.1
        rw [List.drop_eq_nil_of_le (by omega)] at h1
        have h2 := he_nil h1.symm
        have h3 := List.take_append_drop j s.data.toList
        rw [h2, List.append_nil] at h3
        rw [h3, HSo.out]
      rw [hfin]
      clear HN HAt HSl HX HSo hfin
      go_wp2_with fail
      go_ret
      exact ⟨rfl, HB.out⟩
end Go.Proofs.YtpakjdgddomdjaaDoor.Ht
