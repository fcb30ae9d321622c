import Derived.Test.YtihihgfcklkkhaaGreatDoorPaEndsWalk
import Derived.Test.YtihihgfcklkkhaaGreatDoorPkAK
namespace Go.Proofs.YtihihgfcklkkhaaGreatDoor.Pa
open Go.RowKit
open Go.Proofs.YtihihgfcklkkhaaGreatDoor.Tk (S S_of S_list S_size S_toList S_app ret_int eq8 ne8 at_data len_data Rd)
open Go.Proofs.YtihihgfcklkkhaaGreatDoor.Sp (ret_bool OkAns)
open Go.Proofs.YtihihgfcklkkhaaGreatDoor.Bt (TrB smB smB_iff rsameB_any szAll)
open Go.Proofs.YtihihgfcklkkhaaGreatDoor.Bk (Tx Bk kindOf)
open Go.Proofs.YtihihgfcklkkhaaGreatDoor.Cm (Keep)
set_option linter.unusedVariables false
theorem lns_ok {l : List Tx} (h : (lnsB l).2 = 0) : allE 0 l = some (lnsB l).1 := by
  unfold lnsB at h ⊢
  cases hx : allE 0 l with
  | none => rw [hx] at h; cases h
  | some x => rfl
theorem lns_zero (l : List Tx) : (lnsB l).2 = 0 ∨ (lnsB l).2 = 5 := by
  unfold lnsB
  cases allE 0 l with
  | none => exact Or.inr rfl
  | some x => exact Or.inl rfl
theorem lns_joins {a b : List Tx} (ha : (lnsB a).2 = 0) (hb : (lnsB b).2 = 0) (hl : ∀ z, (lnsB a).1.getLast? = some z → z.kind ≠ 4) : lnsB (a ++ [] :: rul :: [] :: b) = ((lnsB a).1 ++ .mk 3 0 [] [] [] [] :: (lnsB b).1, 0) := by
  have h := joins_all a b _ _ (lns_ok ha) (lns_ok hb) hl
  have hu : ∀ l, lnsB l = (match allE 0 l with | none => ([], 5) | some l => (l, 0)) := fun l => rfl
  rw [hu (a ++ [] :: rul :: [] :: b), h]
theorem lns_len (l : List Tx) (h : tot l ≤ 350) : (lnsB l).1.length ≤ 4000 := by
  unfold lnsB
  cases hx : allE 0 l with
  | none => exact Nat.zero_le _
  | some x =>
    have h1 := all_tt 0 l x hx
    have h2 : x.length ≤ Bt.ttAll x := by
      have : ∀ y : List Bk, y.length ≤ Bt.ttAll y := by
        intro y
        induction y with
        | nil => exact Nat.zero_le _
        | cons b r ih => rw [Bt.ttAll_cons, Bt.ttOne_eq, List.length_cons]; omega
      exact this x
    show x.length ≤ 4000
    omega
set_option maxHeartbeats 6400000 in
theorem parseJoins_walk (K : Told12) (w : World) (va : Value) (xa : List Tx) (hra : Rd w va xa) (hba : tot xa ≤ 2100000) (vb : Value) (xb : List Tx) (hrb : Rd w vb xb) (hbb : tot xb ≤ 2100000) :
    Calls Tryz.prog 7 #[va, vb] w (OkAns w true) := by
  obtain ⟨ao, ca, rfl⟩ := hra.len
  obtain ⟨bo, cb, rfl⟩ := hrb.len
  have HA := Lib.hid (awake12_any K)
  have hcast : ((350 : Nat) : Int) = 350 := rfl
  have HFa := Lib.hid (fun w' (h : Below w.heap.size w w') => fits_any _ xa w' (hra.below h) (by omega) 350 (by omega))
  have HFb := Lib.hid (fun w' (h : Below w.heap.size w w') => fits_any _ xb w' (hrb.below h) (by omega) 350 (by omega))
  simp only [hcast] at HFa HFb
  clear hcast
  have HAg : Hid (∀ w1, Below w.heap.size w w1 → ∀ Q : Prop, True) := Lib.hid (fun _ _ _ => trivial)
  clear HAg
  cases hfa : fitsB xa 350 with
  | false =>
    simp only [hfa] at HFa
    clear K hra hrb hfa HFb
    go_enter Tryz.func7, Tryz.ntmps7
    go_wp2_with fail
    refine (HA.out _).mono ?_
    rintro e w2 ⟨rfl, b2⟩
    have HB2 := Lib.hid b2
    clear b2
    go_wp2_with fail
    refine (HFa.out _ HB2.out).mono ?_
    rintro e w3 ⟨rfl, b3⟩
    have HB3 := Lib.hid (HB2.out.trans (b3.mono HB2.out.size))
    clear b3 HFa
    go_wp2_with fail
    refine (HA.out _).mono ?_
    rintro e w4 ⟨rfl, b4⟩
    have HB4 := Lib.hid (HB3.out.trans (b4.mono HB3.out.size))
    clear b4
    go_wp2_with fail
    go_ret
    exact ⟨rfl, HB4.out⟩
  | true =>
  cases hfb : fitsB xb 350 with
  | false =>
    simp only [hfa] at HFa
    simp only [hfb] at HFb
    clear K hra hrb hfa hfb
    go_enter Tryz.func7, Tryz.ntmps7
    go_wp2_with fail
    refine (HA.out _).mono ?_
    rintro e w2 ⟨rfl, b2⟩
    have HB2 := Lib.hid b2
    clear b2
    go_wp2_with fail
    refine (HFa.out _ HB2.out).mono ?_
    rintro e w3 ⟨rfl, b3⟩
    have HB3 := Lib.hid (HB2.out.trans (b3.mono HB2.out.size))
    clear b3 HFa
    go_wp2_with fail
    refine (HFb.out _ HB3.out).mono ?_
    rintro e w4 ⟨rfl, b4⟩
    have HB4 := Lib.hid (HB3.out.trans (b4.mono HB3.out.size))
    clear b4 HFb
    go_wp2_with fail
    refine (HA.out _).mono ?_
    rintro e w5 ⟨rfl, b5⟩
    have HB5 := Lib.hid (HB4.out.trans (b5.mono HB4.out.size))
    clear b5
    go_wp2_with fail
    go_ret
    exact ⟨rfl, HB5.out⟩
  | true =>
    obtain ⟨hlta, hta⟩ := fits_lt hfa
    obtain ⟨hltb, htb⟩ := fits_lt hfb
    simp only [hfa] at HFa
    simp only [hfb] at HFb
    have hlena : xa.length ≤ 350 := Nat.le_trans (tot_len xa) hta
    have hlenb : xb.length ≤ 350 := Nat.le_trans (tot_len xb) htb
    have HLa := Lib.hid (fun w' (h : Below w.heap.size w w') => K.lines _ xa w' (hra.below h) (by omega))
    have HLb := Lib.hid (fun w' (h : Below w.heap.size w w') => K.lines _ xb w' (hrb.below h) (by omega))
    have HLj := Lib.hid (fun v w' (h : Rd w' v (xa ++ [] :: rul :: [] :: xb)) => K.lines v _ w' h (by
      rw [tot_app]
      simp only [tot, List.length_nil]
      have : rul.length = 3 := rfl
      omega))
    have HJ := Lib.hid (fun h1 h2 h3 => lns_joins (a := xa) (b := xb) h1 h2 h3)
    have hza := lns_zero xa
    have hzb := lns_zero xb
    have htta : szAll (lnsB xa).1 ≤ szAll (lnsB xa).1 := Nat.le_refl _
    have hla : (lnsB xa).1.length ≤ 4000 := lns_len xa hta
    have hlb : (lnsB xb).1.length ≤ 4000 := lns_len xb htb
    have HRda := Lib.hid (fun w' (h : Below w.heap.size w w') => hra.below h)
    have HRdb := Lib.hid (fun w' (h : Below w.heap.size w w') => hrb.below h)
    unfold LnsAns at HLa HLb HLj
    generalize lnsB (xa ++ [] :: rul :: [] :: xb) = Z at *
    generalize lnsB xa = X at *
    generalize lnsB xb = Y at *
    obtain ⟨x, e⟩ := X
    obtain ⟨y, f⟩ := Y
    obtain ⟨z, g⟩ := Z
    simp only at HLa HLb HLj HJ hza hzb hla hlb
    clear K hra hrb hfa hfb hlta hltb htta
    go_enter Tryz.func7, Tryz.ntmps7
    go_wp2_with fail
    refine (HA.out _).mono ?_
    rintro e' w2 ⟨rfl, b2⟩
    have HB2 := Lib.hid b2
    clear b2
    go_wp2_with fail
    refine (HFa.out _ HB2.out).mono ?_
    rintro e' w3 ⟨rfl, b3⟩
    have HB3 := Lib.hid (HB2.out.trans (b3.mono HB2.out.size))
    clear b3 HFa HA
    go_wp2_with fail
    refine (HFb.out _ HB3.out).mono ?_
    rintro e' w4 ⟨rfl, b4⟩
    have HB4 := Lib.hid (HB3.out.trans (b4.mono HB3.out.size))
    clear b4 HFb
    go_wp2_with fail
    refine (HLa.out _ HB4.out).mono ?_
    rintro e' w5 ⟨u1, rfl, t1, b5⟩
    have HT1 := Lib.hid t1
    have HB5 := Lib.hid (HB4.out.trans (b5.mono HB4.out.size))
    clear t1 b5 HLa
    go_wp2_with fail
    refine (HLb.out _ HB5.out).mono ?_
    rintro e' w6 ⟨u2, rfl, t2, b6⟩
    have HT2 := Lib.hid t2
    have HT16 := Lib.hid (HT1.out.below b6)
    have HB6 := Lib.hid (HB5.out.trans (b6.mono HB5.out.size))
    obtain ⟨a1, c1, rfl⟩ := HT16.out.len
    obtain ⟨a2, c2, rfl⟩ := HT2.out.len
    clear t2 b6 HLb HT1
    rcases hza with he | he
    case inr =>
      have e1 : (e != 0) = true := by rw [he]; rfl
      clear he hzb
      go_wp2_with fail
      go_ret
      exact ⟨rfl, HB6.out⟩
    rcases hzb with hf | hf
    case inr =>
      subst he
      have e1 : (f != 0) = true := by rw [hf]; rfl
      clear hf
      go_wp2_with fail
      go_ret
      exact ⟨rfl, HB6.out⟩
    subst he
    subst hf
    have hmain : (∀ z, x.getLast? = some z → z.kind ≠ 4) → True := fun _ => trivial
    clear hmain
    have hgo : (∀ z, x.getLast? = some z → z.kind ≠ 4) → Hid ((z, g) = (x ++ .mk 3 0 [] [] [] [] :: y, 0)) := fun h => Lib.hid (HJ.out rfl rfl h)
    clear HJ
    by_cases hfence : ∃ q, x.getLast? = some q ∧ q.kind = 4
    · obtain ⟨q, hq1, hq4⟩ := hfence
      have h0 : 0 < x.length := by
        cases x with
        | nil => cases hq1
        | cons _ _ => simp
      have q1 : decide ((x.length : Int) > 0) = true := decide_eq_true (by omega)
      have q2 : decide ((0 : Int) < (x.length : Int)) = true := decide_eq_true (by omega)
      have q3 : decide (0 < x.length) = true := decide_eq_true h0
      obtain ⟨n1, hn1⟩ : ∃ q, q = x.length - 1 := ⟨_, rfl⟩
      have wl : IntKind.i64.wrap ((x.length : Int) - 1) = (n1 : Int) := by rw [IntKind.wrap_i64]; omega
      have hn1l : n1 < x.length := by omega
      have hn1i : (n1 : Int) < (x.length : Int) := by omega
      obtain ⟨b, o, _, _, _, _, rfl, _, hc⟩ := HT16.out.at n1 hn1l
      have k0 := hc.kind
      have hlast : x.getLast? = some x[n1] := by rw [List.getLast?_eq_getElem?, ← hn1, List.getElem?_eq_getElem hn1l]
      have h4 : x[n1].kind = 4 := by
        rw [hlast] at hq1
        injection hq1 with hq1
        rw [hq1]; exact hq4
      rw [h4] at k0
      clear hlast h4 hn1 h0 hc hgo hq1 hq4 hla hlb
      go_wp2_with fail
      go_ret
      exact ⟨rfl, HB6.out⟩
    · have hzg := hgo (fun q hq h4 => hfence ⟨q, hq, h4⟩)
      have Hz : Hid (z = x ++ .mk 3 0 [] [] [] [] :: y ∧ g = 0) := Lib.hid (by
        have := hzg.out
        simp only [Prod.mk.injEq] at this
        exact this)
      clear hzg hgo
      have hcond : Hid (x.length = 0 ∨ ∃ hn : x.length - 1 < x.length, x[x.length - 1].kind ≠ 4) := Lib.hid (by
        rcases Nat.eq_zero_or_pos x.length with h | h
        · exact Or.inl h
        · refine Or.inr ⟨by omega, fun h4 => hfence ⟨_, ?_, h4⟩⟩
          rw [List.getLast?_eq_getElem?, List.getElem?_eq_getElem (by omega)])
      clear hfence
      have hE6 : OutS w6.heap.size (w6.alloc (.cells #[] 9)) (.slice (some ⟨w6.heap.size, 0, none⟩) 0 0) [] := OutS.empty (Nat.le_refl _)
      have hbE : Below w6.heap.size w6 (w6.alloc (.cells #[] 9)) := (Below.refl _ _).alloc (Nat.le_refl _) _
      have HBE := HB6.out.trans (hbE.mono HB6.out.size)
      obtain ⟨v7, w7, q7, o7, b7⟩ := OutS.app hE6 (HRda.out _ HBE) (by simp; omega)
      have hB7 := hbE.trans b7
      have hB7w := HB6.out.trans (hB7.mono HB6.out.size)
      have o7a : OutS w6.heap.size (w7.alloc (.cells #[.string (S []), .string (S rul), .string (S [])] 9)) v7 ([] ++ xa) := OutG.go o7 ((Keep.refl _ _).alloc _)
      obtain ⟨v8, w8, q8, o8, b8⟩ := OutS.app o7a (rd_three w7 [] rul []) (by simp; omega)
      have hB8 := (hB7.alloc hB7.size (.cells #[.string (S []), .string (S rul), .string (S [])] 9)).trans b8
      have hB8w := HB6.out.trans (hB8.mono HB6.out.size)
      obtain ⟨v9, w9, q9, o9, b9⟩ := OutS.app o8 (HRdb.out _ hB8w) (by simp; omega)
      have hB9w := Lib.hid (HB6.out.trans ((hB8.trans b9).mono HB6.out.size))
      have hlist : [] ++ xa ++ [[], rul, []] ++ xb = xa ++ [] :: rul :: [] :: xb := by simp
      rw [hlist] at o9
      have HL9 := Lib.hid (HLj.out v9 w9 (OutS.rd o9))
      have HT19 := Lib.hid (HT16.out.below (hB8.trans b9))
      have HT29 := Lib.hid (HT2.out.below (hB8.trans b9))
      have hsr : S rul = ⟨#[45, 45, 45]⟩ := rfl
      have hs0 : S ([] : Tx) = ⟨#[]⟩ := rfl
      rw [hsr, hs0] at q8
      have hn7 : (w6.alloc (.cells #[] 9)).heap.size = w6.heap.size + 1 := by simp
      obtain ⟨a7, m7, d7, h7⟩ : ∃ ao n cap, v7 = .slice ao n cap := by
        rcases (OutG.own o7).2 with ⟨h, _⟩ | ⟨g, cap, _, h, _⟩
        · exact ⟨none, 0, 0, h⟩
        · exact ⟨_, _, _, h⟩
      obtain ⟨a8, m8, d8, h8⟩ : ∃ ao n cap, v8 = .slice ao n cap := by
        rcases (OutG.own o8).2 with ⟨h, _⟩ | ⟨g, cap, _, h, _⟩
        · exact ⟨none, 0, 0, h⟩
        · exact ⟨_, _, _, h⟩
      obtain ⟨a9, m9, d9, h9⟩ : ∃ ao n cap, v9 = .slice ao n cap := by
        rcases (OutG.own o9).2 with ⟨h, _⟩ | ⟨g, cap, _, h, _⟩
        · exact ⟨none, 0, 0, h⟩
        · exact ⟨_, _, _, h⟩
      subst h7
      subst h8
      subst h9
      have HS := Lib.hid (fun va vb w' ta tb => rsameB_any (szAll z) z z va vb w' (Nat.le_refl _) ta tb)
      have hsm2 : smB z z = true := (smB_iff z z).2 rfl
      simp only [hsm2] at HS
      obtain ⟨hz1, hg0⟩ := Hz.out
      subst hg0
      have Hz1 := Lib.hid hz1
      clear hE6 hbE HBE o7 b7 hB7 hB7w o7a o8 b8 hB8 hB8w o9 b9 hlist hsr hs0 hn7 hsm2 HLj HRda HRdb HT2 Hz hz1
      have tail : ∀ {Q : Prop}, Q → Q := fun h => h
      clear tail
      rcases hcond.out with h0 | ⟨hn1l, h4⟩
      · have q1 : decide ((x.length : Int) > 0) = false := decide_eq_false (by omega)
        have q2 : decide ((0 : Int) < (x.length : Int)) = false := decide_eq_false (by omega)
        have q3 : decide (0 < x.length) = false := decide_eq_false (by omega)
        clear h0 hcond
        go_wp2_with (first
          | (at_builtin; (show wpList _ _ _ (Oper.mk (some 58) _ _ _ _ _ :: _) _ _); refine Lib.wpList_append_run _ rfl (.tmp 56) (.tmp 57) _ _ rfl _ _ rfl rfl _ _ (q7 _) ?_)
          | (at_builtin; (show wpList _ _ _ (Oper.mk (some 60) _ _ _ _ _ :: _) _ _); refine Lib.wpList_append_run _ rfl (.tmp 58) (.tmp 59) _ _ rfl _ _ rfl rfl _ _ (q8 _) ?_)
          | (at_builtin; (show wpList _ _ _ (Oper.mk (some 62) _ _ _ _ _ :: _) _ _); refine Lib.wpList_append_run _ rfl (.tmp 60) (.tmp 61) _ _ rfl _ _ rfl rfl _ _ (q9 _) ?_))
        refine HL9.out.mono ?_
        rintro e' w10 ⟨u3, rfl, t3, b10⟩
        have HT3 := Lib.hid t3
        have hB10 := Lib.hid (hB9w.out.trans (b10.mono hB9w.out.size))
        have ht1 := HT19.out.below b10
        have ht2 := HT29.out.below b10
        obtain ⟨ao1, m1, s1, w11, ao2, m2, s2, w12, v13, w13, r1, r2, r3, hT, hB⟩ := three_bk ht1 ht2 (by omega) (by omega)
        rw [← Hz1.out] at hT
        have HTz := Lib.hid hT
        obtain ⟨ao3, s3, rfl⟩ := hT.len
        have HT3' := Lib.hid (HT3.out.below hB)
        have hB13 := Lib.hid (hB10.out.trans (hB.mono hB10.out.size))
        clear t3 b10 ht1 ht2 hT hB HT3 HL9 q7 q8 q9 HT19 HT29 Hz1
        go_wp2_with (first
          | (at_builtin; (show wpList _ _ _ (Oper.mk (some 72) _ _ _ _ _ :: _) _ _); refine wpList_append_wantP _ (by rfl) (.tmp 70) (.tmp 71) _ _ rfl _ _ rfl rfl _ _ (r1 _) ?_)
          | (at_builtin; (show wpList _ _ _ (Oper.mk (some 75) _ _ _ _ _ :: _) _ _); refine wpList_append_wantP _ (by rfl) (.tmp 72) (.tmp 74) _ _ rfl _ _ rfl rfl _ _ (r2 _) ?_)
          | (at_builtin; (show wpList _ _ _ (Oper.mk (some 77) _ _ _ _ _ :: _) _ _); refine wpList_append_wantP _ (by rfl) (.tmp 75) (.tmp 76) _ _ rfl _ _ rfl rfl _ _ (r3 _) ?_))
        refine (HS.out _ _ _ HT3'.out HTz.out).mono ?_
        rintro e' w14 ⟨rfl, b14⟩
        have HB14 := Lib.hid (hB13.out.trans (b14.mono hB13.out.size))
        clear b14
        go_wp2_with fail
        go_ret
        exact ⟨rfl, HB14.out⟩
      · have q1 : decide ((x.length : Int) > 0) = true := decide_eq_true (by omega)
        have q2 : decide ((0 : Int) < (x.length : Int)) = true := decide_eq_true (by omega)
        have q3 : decide (0 < x.length) = true := decide_eq_true (by omega)
        obtain ⟨n1, hn1⟩ : ∃ q, q = x.length - 1 := ⟨_, rfl⟩
        have wl : IntKind.i64.wrap ((x.length : Int) - 1) = (n1 : Int) := by rw [IntKind.wrap_i64]; omega
        simp only [← hn1] at h4
        have hn1i : (n1 : Int) < (x.length : Int) := by omega
        obtain ⟨b, o, _, _, _, _, rfl, _, hc⟩ := HT16.out.at n1 (by omega)
        have k0 := hc.kind
        have e4 : (x[n1].kind == 4) = false := by rw [beq_eq_false_iff_ne]; exact h4
        obtain ⟨kk, hkk⟩ : ∃ q, x[n1].kind = q := ⟨_, rfl⟩
        rw [hkk] at k0 e4
        clear hn1 hc h4 hkk hcond
        go_wp2_with (first
          | (at_builtin; (show wpList _ _ _ (Oper.mk (some 58) _ _ _ _ _ :: _) _ _); refine Lib.wpList_append_run _ rfl (.tmp 56) (.tmp 57) _ _ rfl _ _ rfl rfl _ _ (q7 _) ?_)
          | (at_builtin; (show wpList _ _ _ (Oper.mk (some 60) _ _ _ _ _ :: _) _ _); refine Lib.wpList_append_run _ rfl (.tmp 58) (.tmp 59) _ _ rfl _ _ rfl rfl _ _ (q8 _) ?_)
          | (at_builtin; (show wpList _ _ _ (Oper.mk (some 62) _ _ _ _ _ :: _) _ _); refine Lib.wpList_append_run _ rfl (.tmp 60) (.tmp 61) _ _ rfl _ _ rfl rfl _ _ (q9 _) ?_))
        refine HL9.out.mono ?_
        rintro e' w10 ⟨u3, rfl, t3, b10⟩
        have HT3 := Lib.hid t3
        have hB10 := Lib.hid (hB9w.out.trans (b10.mono hB9w.out.size))
        have ht1 := HT19.out.below b10
        have ht2 := HT29.out.below b10
        obtain ⟨ao1, m1, s1, w11, ao2, m2, s2, w12, v13, w13, r1, r2, r3, hT, hB⟩ := three_bk ht1 ht2 (by omega) (by omega)
        rw [← Hz1.out] at hT
        have HTz := Lib.hid hT
        obtain ⟨ao3, s3, rfl⟩ := hT.len
        have HT3' := Lib.hid (HT3.out.below hB)
        have hB13 := Lib.hid (hB10.out.trans (hB.mono hB10.out.size))
        clear t3 b10 ht1 ht2 hT hB HT3 HL9 q7 q8 q9 HT19 HT29 Hz1
        go_wp2_with (first
          | (at_builtin; (show wpList _ _ _ (Oper.mk (some 72) _ _ _ _ _ :: _) _ _); refine wpList_append_wantP _ (by rfl) (.tmp 70) (.tmp 71) _ _ rfl _ _ rfl rfl _ _ (r1 _) ?_)
          | (at_builtin; (show wpList _ _ _ (Oper.mk (some 75) _ _ _ _ _ :: _) _ _); refine wpList_append_wantP _ (by rfl) (.tmp 72) (.tmp 74) _ _ rfl _ _ rfl rfl _ _ (r2 _) ?_)
          | (at_builtin; (show wpList _ _ _ (Oper.mk (some 77) _ _ _ _ _ :: _) _ _); refine wpList_append_wantP _ (by rfl) (.tmp 75) (.tmp 76) _ _ rfl _ _ rfl rfl _ _ (r3 _) ?_))
        refine (HS.out _ _ _ HT3'.out HTz.out).mono ?_
        rintro e' w14 ⟨rfl, b14⟩
        have HB14 := Lib.hid (hB13.out.trans (b14.mono hB13.out.size))
        clear b14
        go_wp2_with fail
        go_ret
        exact ⟨rfl, HB14.out⟩
end Go.Proofs.YtihihgfcklkkhaaGreatDoor.Pa
