/-
  CONTRACTS of nameOf and of a page's text (html).
-/
import Derived.Test.YtpakjdgddomdjaaDoorHtPut
import Derived.Test.YtpakjdgddomdjaaDoorHtRefE
namespace Go.Proofs.YtpakjdgddomdjaaDoor.Ht
open Go.RowKit
open Go.Proofs.YtpakjdgddomdjaaDoor.Tk (S S_of S_list S_size S_toList S_app eq8 ne8 at_data len_data drop_all)
open Go.Proofs.YtpakjdgddomdjaaDoor.Bk (Tx)
set_option linter.unusedVariables false

theorem sliceE (x : ByteArray) (k : Nat) (h2 : k ≤ x.size) (w : World) :
    (Instr.slice 9 (.string x) (some (.int .i64 (k : Int))) none none).run Tryd.prog w = .ok (.string (x.extract k x.size)) w := by
  have h4 : (k : Int) ≤ (x.size : Int) := by omega
  have h5 : 0 ≤ (k : Int) := by omega
  go_simp
def nmo (c : UInt8) : Tx := if c = 38 then [38, 97, 109, 112, 59] else if c = 60 then [38, 108, 116, 59] else if c = 62 then [38, 103, 116, 59] else if c = 34 then [38, 113, 117, 111, 116, 59] else []
theorem nm_nmo (c : UInt8) : nm c = if nmo c = [] then [c] else nmo c := by
  unfold nm nmo
  split
  · rfl
  · split
    · rfl
    · split
      · rfl
      · split <;> rfl
theorem nmo_len (c : UInt8) : (nmo c).length ≤ 6 := by
  unfold nmo
  split
  · simp
  · split
    · simp
    · split
      · simp
      · split <;> simp
set_option maxHeartbeats 800000 in
theorem nameOf_any (c : UInt8) (w : World) :
    Calls Tryd.prog 30 #[.int .u8 (c.toNat : Int)] w fun e w' => e = .returned (.string (S (nmo c))) ∧ w = w' := by
  unfold nmo
  by_cases h1 : c = 38
  · rw [if_pos h1]
    have e1 : ((c.toNat : Int) == 38) = true := eq8 (b := 38) h1
    go_enter Tryd.func30, Tryd.ntmps30
    go_wp2_with fail
    go_ret
    exact ⟨rfl, rfl⟩
  rw [if_neg h1]
  have e1 : ((c.toNat : Int) == 38) = false := ne8 (b := 38) h1
  by_cases h2 : c = 60
  · rw [if_pos h2]
    have e2 : ((c.toNat : Int) == 60) = true := eq8 (b := 60) h2
    go_enter Tryd.func30, Tryd.ntmps30
    go_wp2_with fail
    go_ret
    exact ⟨rfl, rfl⟩
  rw [if_neg h2]
  have e2 : ((c.toNat : Int) == 60) = false := ne8 (b := 60) h2
  by_cases h3 : c = 62
  · rw [if_pos h3]
    have e3 : ((c.toNat : Int) == 62) = true := eq8 (b := 62) h3
    go_enter Tryd.func30, Tryd.ntmps30
    go_wp2_with fail
    go_ret
    exact ⟨rfl, rfl⟩
  rw [if_neg h3]
  have e3 : ((c.toNat : Int) == 62) = false := ne8 (b := 62) h3
  by_cases h4 : c = 34
  · rw [if_pos h4]
    have e4 : ((c.toNat : Int) == 34) = true := eq8 (b := 34) h4
    go_enter Tryd.func30, Tryd.ntmps30
    go_wp2_with fail
    go_ret
    exact ⟨rfl, rfl⟩
  rw [if_neg h4]
  have e4 : ((c.toNat : Int) == 34) = false := ne8 (b := 34) h4
  go_enter Tryd.func30, Tryd.ntmps30
  go_wp2_with fail
  go_ret
  exact ⟨rfl, rfl⟩
theorem mid_step (l : Tx) (f k : Nat) (h : f ≤ k) : (l.drop f).take (k + 1 - f) = (l.drop f).take (k - f) ++ (l.drop k).take 1 := by
  rw [show k + 1 - f = (k - f) + 1 by omega, List.take_add, List.drop_drop, show f + (k - f) = k by omega]

set_option maxHeartbeats 3200000 in
theorem textP_any (B b : Nat) (t : Tx) (s : ByteArray) (w : World) (h : Pg B b t w) (hlen : t.length + (he s.data.toList).length ≤ 140737488355328) (hBw : B ≤ w.heap.size) :
    Calls Tryd.prog 24 #[.pointer (some ⟨b, 0, none⟩), .string s] w fun e w' => e = .returned (.tuple #[]) ∧ PgAns B b (t ++ he s.data.toList) w w' := by
  have HAt := Lib.hid (at_data s)
  have HSl := Lib.hid (sliceS s)
  have HSe := Lib.hid (sliceE s)
  have HE := Lib.hid (ext_list s)
  have HMi := Lib.hid (mid_step s.data.toList)
  have H0 : Hid (PgAns B b (t ++ []) w w ∧ he s.data.toList = [] ++ he (s.data.toList.drop 0) ∧ he ((s.data.toList.drop 0).take (0 - 0)) = (s.data.toList.drop 0).take (0 - 0)) := Lib.hid ⟨by rw [List.append_nil]; exact PgAns.refl h, by rw [List.drop_zero]; rfl, by rw [Nat.sub_zero, List.take_zero]; rfl⟩
  have hszX := (he_len s.data.toList).1
  rw [len_data] at hszX
  obtain ⟨X, hX⟩ : ∃ X, he s.data.toList = X := ⟨_, rfl⟩
  rw [hX] at H0 hlen hszX
  rw [hX]
  clear hX h
  go_enter Tryd.func24, Tryd.ntmps24
  go_wp2_with fail
  go_loopw [4, 9] (fun fv i wr => ∃ (k f : Nat) (A : Tx), k ≤ s.size ∧ f ≤ k ∧ A.length ≤ X.length ∧ i = .int .i64 k ∧ fv = .int .i64 f ∧ Hid (PgAns B b (t ++ A) w wr ∧ X = A ++ he (s.data.toList.drop f) ∧ he ((s.data.toList.drop f).take (k - f)) = (s.data.toList.drop f).take (k - f))) (fun _ i _ => s.size - (intOf i).toNat)
  case atStart => exact ⟨0, 0, [], Nat.zero_le _, Nat.zero_le _, Nat.zero_le _, rfl, rfl, H0⟩
  case round =>
    clear H0
    obtain ⟨k, f, A, hk, hf, hA, rfl, rfl, HN⟩ := hrel
    have hsz := HN.out.1.bel.size
    by_cases hlt : k < s.size
    · have hi1 : (k : Int) < (s.size : Int) := by omega
      have HM := Lib.hid (nameOf_any s[k])
      have hmi := HMi.out f k hf
      rw [HAt.out k hlt, List.take_succ_cons, List.take_zero] at hmi
      by_cases h0 : nmo s[k] = []
      · have hnm := nm_nmo s[k]
        rw [if_pos h0] at hnm
        have HN2 : Hid (PgAns B b (t ++ A) w wr ∧ X = A ++ he (s.data.toList.drop f) ∧ he ((s.data.toList.drop f).take (k + 1 - f)) = (s.data.toList.drop f).take (k + 1 - f)) := Lib.hid ⟨HN.out.1, HN.out.2.1, by
          rw [hmi, he_app, HN.out.2.2]
          show _ ++ (nm s[k] ++ []) = _
          rw [hnm, List.append_nil]⟩
        rw [h0] at HM
        have e1 : S [] = ⟨#[]⟩ := rfl
        rw [e1] at HM
        clear HN hmi h0 hnm HAt HSl HSe HE HMi e1
        go_wp2_with fail
        refine (HM.out _).mono ?_
        rintro e w2 ⟨rfl, rfl⟩
        clear HM
        go_wp2_with fail
        go_roundw
        case rel => exact ⟨k + 1, f, A, by omega, by omega, hA, by go_num, rfl, HN2⟩
        case measure => simp [intOf] <;> omega
      · have hnm := nm_nmo s[k]
        rw [if_neg h0] at hnm
        have hln := nmo_len s[k]
        have hsl := HSl.out f k hf (by omega)
        have hne : (S (nmo s[k])).toList.isEmpty = false := by
          rw [S_toList, List.isEmpty_eq_false_iff]
          exact h0
        have hml : ((s.data.toList.drop f).take (k - f)).length = k - f := by
          rw [List.length_take, List.length_drop, len_data]
          omega
        have HX2 : Hid (X = (A ++ (s.data.toList.drop f).take (k - f) ++ nmo s[k]) ++ he (s.data.toList.drop (k + 1))) := Lib.hid (by
          rw [HN.out.2.1]
          conv => lhs; rw [← List.take_append_drop (k - f) (s.data.toList.drop f)]
          rw [he_app, HN.out.2.2, List.drop_drop, show f + (k - f) = k by omega, HAt.out k hlt, he_cons, hnm]
          simp only [List.append_assoc])
        have hxl := congrArg List.length HX2.out
        rw [List.length_append, List.length_append, List.length_append, hml] at hxl
        have HP1 := Lib.hid (putP_any B b (t ++ A) (s.extract f k) wr HN.out.1.pg (by rw [List.length_append, ByteArray.size_extract]; omega) (by omega))
        have HP2 := Lib.hid (fun w' (hh : PgAns B b (t ++ A ++ (s.extract f k).data.toList) wr w') => putP_any B b (t ++ A ++ (s.extract f k).data.toList) (S (nmo s[k])) w' hh.pg (by rw [List.length_append, List.length_append, HE.out, hml, S_size]; omega) (hh.size (by omega)))
        rw [S_list] at HP2
        have HG := Lib.hid HN.out.1
        have HEe := Lib.hid (HE.out f k)
        have zz : ((k + 1 : Nat) : Int) = (k : Int) + 1 := by omega
        have HZ : Hid (∀ w', PgAns B b (t ++ A ++ (s.extract f k).data.toList ++ nmo s[k]) w w' → (PgAns B b (t ++ (A ++ (s.data.toList.drop f).take (k - f) ++ nmo s[k])) w w' ∧ X = (A ++ (s.data.toList.drop f).take (k - f) ++ nmo s[k]) ++ he (s.data.toList.drop (k + 1)) ∧ he ((s.data.toList.drop (k + 1)).take (k + 1 - (k + 1))) = (s.data.toList.drop (k + 1)).take (k + 1 - (k + 1)))) := Lib.hid (fun w' hh => ⟨by rw [HEe.out] at hh; simpa only [List.append_assoc] using hh, HX2.out, by rw [Nat.sub_self, List.take_zero]; rfl⟩)
        have hAl : (A ++ (s.data.toList.drop f).take (k - f) ++ nmo s[k]).length ≤ X.length := by rw [List.length_append, List.length_append, hml]; omega
        clear HN hmi h0 hnm HAt HSl HSe HE HMi HX2 HEe hml
        generalize (A ++ (s.data.toList.drop f).take (k - f) ++ nmo s[k]) = A2 at *
        generalize nmo s[k] = q at *
        generalize s.extract f k = y at *
        go_wp2_with fail
        refine (HM.out _).mono ?_
        rintro e w2 ⟨rfl, rfl⟩
        clear HM
        go_wp2_with fail
        refine HP1.out.mono ?_
        rintro e w3 ⟨rfl, b3⟩
        have HP3 := Lib.hid (HP2.out w3 b3)
        have HG3 := Lib.hid (HG.out.trans b3)
        clear b3 HP1 HP2 HG
        go_wp2_with fail
        refine HP3.out.mono ?_
        rintro e w4 ⟨rfl, b4⟩
        have HR := Lib.hid (HZ.out w4 (HG3.out.trans b4))
        clear b4 HP3 HG3 HZ
        go_wp2_with fail
        go_roundw
        case rel => exact ⟨k + 1, k + 1, A2, by omega, Nat.le_refl _, hAl, by go_num, by go_num, HR⟩
        case measure => simp [intOf] <;> omega
    · have hi1 : ¬ (k : Int) < (s.size : Int) := by omega
      have hks : k = s.size := by omega
      have hsl := HSe.out f (by omega)
      have hex : (s.extract f s.size).data.toList = s.data.toList.drop f := by
        rw [HE.out]
        exact List.take_of_length_le (by rw [List.length_drop, len_data]; omega)
      have hX : X = A ++ s.data.toList.drop f := by
        have h2 := HN.out.2.2
        rw [List.take_of_length_le (by rw [List.length_drop, len_data]; omega)] at h2
        rw [HN.out.2.1, h2]
      have hxl := congrArg List.length hX
      rw [List.length_append, List.length_drop, len_data] at hxl
      have HP := Lib.hid (putP_any B b (t ++ A) (s.extract f s.size) wr HN.out.1.pg (by rw [List.length_append, ByteArray.size_extract]; omega) (by omega))
      rw [hex] at HP
      have HG : Hid (∀ w', PgAns B b (t ++ A ++ s.data.toList.drop f) wr w' → PgAns B b (t ++ X) w w') := Lib.hid (fun w' hh => by rw [hX, ← List.append_assoc]; exact HN.out.1.trans hh)
      clear HN HAt HSl HSe HE HMi hex hX
      generalize s.extract f s.size = y at *
      go_wp2_with fail
      refine HP.out.mono ?_
      rintro e w3 ⟨rfl, b3⟩
      have HR := Lib.hid (HG.out w3 b3)
      clear b3 HP HG
      go_wp2_with fail
      go_end0
      exact ⟨rfl, HR.out⟩

theorem escP_any (s : ByteArray) (hs : s.size ≤ 1000000000000) (w : World) :
    Calls Tryd.prog 15 #[.string s] w fun e w' => e = .returned (.string (S (he s.data.toList))) ∧ Below w.heap.size w w' := by
  have HB1 := Lib.hid ((Below.refl w.heap.size w).alloc (Nat.le_refl _) (.cells #[.pointer none, .slice none 0 0] 47))
  have hel := (he_len s.data.toList).2
  rw [len_data] at hel
  have HW := Lib.hid (textP_any _ _ [] s _ (Pg.begin w) (by rw [List.length_nil]; omega) HB1.out.size)
  rw [List.nil_append] at HW
  clear hel
  go_enter Tryd.func15, Tryd.ntmps15
  go_wp2_with fail
  refine HW.out.mono ?_
  rintro e w2 ⟨rfl, b2⟩
  have HB2 := Lib.hid (HB1.out.trans b2.bel)
  have HS := Lib.hid (stringP_any _ _ _ w2 b2.pg HB2.out.size)
  clear b2 HW
  go_wp2_with fail
  refine HS.out.mono ?_
  rintro e w3 ⟨rfl, b3⟩
  have HB3 := Lib.hid (HB2.out.trans b3)
  clear b3 HS
  go_wp2_with fail
  go_ret
  exact ⟨rfl, HB3.out⟩
end Go.Proofs.YtpakjdgddomdjaaDoor.Ht
