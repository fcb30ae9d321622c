import Derived.Test.YtihihgfcklkkhaaGreatDoorPkAB
import Derived.Test.YtihihgfcklkkhaaGreatDoorPkAE
namespace Go.Proofs.YtihihgfcklkkhaaGreatDoor.Pa
open Go.RowKit
open Go.Proofs.YtihihgfcklkkhaaGreatDoor.Tk (S S_of S_list S_size S_toList S_app ret_int eq8 ne8 at_data len_data Rd)
open Go.Proofs.YtihihgfcklkkhaaGreatDoor.Sp (ret_bool OkAns)
open Go.Proofs.YtihihgfcklkkhaaGreatDoor.Bt (TrB smB smB_iff rsameB_any szAll)
open Go.Proofs.YtihihgfcklkkhaaGreatDoor.Bk (Tx Bk kindOf)
open Go.Proofs.YtihihgfcklkkhaaGreatDoor.Ln (jn)
open Go.Proofs.YtihihgfcklkkhaaGreatDoor.Utf (chk)
set_option linter.unusedVariables false
theorem doc_lines (s : Tx) (hs : s.length ≤ 20000) : ((docB s).1 = [] ∧ ((docB s).2 = 2 ∨ (docB s).2 = 3)) ∨ (docB s = lnsB (Ln.split s).1 ∧ (docB s).2 ≠ 2 ∧ (docB s).2 ≠ 3 ∧ (∀ x ∈ (Ln.split s).1, Lt x)) := by
  unfold docB
  by_cases hc : chk (S s) = 0
  · rw [if_pos hc]
    refine Or.inr ⟨rfl, ?_, ?_, split_lt hc⟩
    all_goals
      unfold lnsB
      cases allE 0 (Ln.split s).1 <;> simp
  · rw [if_neg hc]
    refine Or.inl ⟨rfl, ?_⟩
    show chk (S s) = 2 ∨ chk (S s) = 3
    unfold chk at hc ⊢
    rw [if_neg (by rw [S_size]; omega)] at hc ⊢
    split
    · exact Or.inr rfl
    · rename_i h1
      rw [if_neg h1] at hc
      split
      · rename_i h2
        rw [if_pos h2] at hc
        exact absurd rfl hc
      · exact Or.inl rfl
set_option maxHeartbeats 6400000 in
theorem parseLines_walk (K : Told12) (w : World) (s : ByteArray) (hs : s.size ≤ maxLen) (hr : s.size ≤ reachBytes) :
    Calls Tryz.prog 11 #[.string s] w (OkAns w true) := by
  have HA := Lib.hid (awake12_any K)
  by_cases h7 : s.size ≤ 700
  · have g1 : decide ((s.size : Int) > 700) = false := decide_eq_false (by omega)
    have g2 : decide ((700 : Int) < (s.size : Int)) = false := decide_eq_false (by omega)
    have g3 : decide (700 < s.size) = false := decide_eq_false (by omega)
    have HD := Lib.hid (fun w' => K.doc s w' (by omega))
    have HSp := Lib.hid (fun w' => Ln.rsplit_any s (by omega) w')
    have hn := doc_lines s.data.toList (by rw [len_data]; omega)
    have hto := split_tot s.data.toList []
    rw [len_data] at hto
    have ht : tot (Ln.split s.data.toList).1 ≤ 701 := by unfold Ln.split; simp only [List.length_nil] at hto; omega
    clear hto
    unfold LnsAns at HD
    rcases hn with ⟨hl, he⟩ | ⟨hdoc, he2, he3, hlt⟩
    · generalize docB s.data.toList = X at *
      obtain ⟨l, e⟩ := X
      simp only at HD hl he
      subst hl
      clear K hs hr h7 ht
      go_enter Tryz.func11, Tryz.ntmps11
      go_wp2_with fail
      refine (HA.out _).mono ?_
      rintro e' w2 ⟨rfl, b2⟩
      have HB2 := Lib.hid b2
      clear b2 HA
      go_wp2_with fail
      refine (HSp.out _).mono ?_
      rintro e' w3 ⟨u, rfl, hown, b3⟩
      have HB3 := Lib.hid (HB2.out.trans (b3.mono HB2.out.size))
      clear hown b3 HSp
      go_wp2_with fail
      refine (HD.out _).mono ?_
      rintro e' w4 ⟨u, rfl, ht, b4⟩
      obtain ⟨ao, cap, rfl⟩ := ht.len
      have HB4 := Lib.hid (HB3.out.trans (b4.mono HB3.out.size))
      have hl0 : ([] : List Bk).length = 0 := rfl
      rw [hl0]
      clear ht b4 HD hl0
      rcases he with he | he
      · subst he
        go_wp2_with fail
        go_ret
        exact ⟨rfl, HB4.out⟩
      · subst he
        go_wp2_with fail
        go_ret
        exact ⟨rfl, HB4.out⟩
    · have hlen : (Ln.split s.data.toList).1.length ≤ 701 := Nat.le_trans (tot_len _) ht
      have hsm : ∀ x ∈ (Ln.split s.data.toList).1, x.length ≤ 700 := fun x hx => by have := tot_mem _ x hx; omega
      have dT := doc_jn_true hlt (by omega)
      have dF := fun h => doc_jn_false hlt (by omega) h
      have jT := jn_tot true (Ln.split s.data.toList).1
      have jF := jn_tot false (Ln.split s.data.toList).1
      rw [hdoc] at HD he2 he3
      generalize (Ln.split s.data.toList).1 = L at *
      generalize (Ln.split s.data.toList).2 = be at *
      have HL := Lib.hid (fun v w' hr => K.lines v L w' hr (by omega))
      have HJT := Lib.hid (fun v w' (hr : Rd w' v L) => rjoinW_any v L true w' hr ⟨by omega, fun x hx => by have := hsm x hx; omega⟩)
      have HJF := Lib.hid (fun v w' (hr : Rd w' v L) => rjoinW_any v L false w' hr ⟨by omega, fun x hx => by have := hsm x hx; omega⟩)
      have HDT : Hid (∀ w', Calls Tryz.prog 13 #[.string (S (jn L true))] w' (LnsAns w' (lnsB L))) := Lib.hid (fun w' => by
        have h := K.doc (S (jn L true)) w' (by rw [S_size]; omega)
        rw [S_list, dT] at h
        exact h)
      have HDF : Hid (∀ w', Calls Tryz.prog 13 #[.string (S (jn L false))] w' (LnsAns w' (docB (jn L false)))) := Lib.hid (fun w' => by
        have h := K.doc (S (jn L false)) w' (by rw [S_size]; omega)
        rw [S_list] at h
        exact h)
      have HdF := Lib.hid dF
      unfold LnsAns at HL HDT HDF
      generalize S (jn L true) = jt at *
      generalize hjf : S (jn L false) = jf at *
      generalize docB (jn L false) = Y at *
      obtain ⟨y, ey⟩ := Y
      generalize lnsB L = X at *
      obtain ⟨l, e⟩ := X
      simp only at HD HL HDT HDF he2 he3
      have HS := Lib.hid (fun va vb w' ta tb => rsameB_any (szAll l) l l va vb w' (Nat.le_refl _) ta tb)
      have hsm2 : smB l l = true := (smB_iff l l).2 rfl
      simp only [hsm2] at HS
      have e2 : (e == 2) = false := by rw [beq_eq_false_iff_ne]; exact he2
      have e3 : (e == 3) = false := by rw [beq_eq_false_iff_ne]; exact he3
      have e4 : (e != e) = false := by simp
      have HSF := Lib.hid (fun va vb w' ta tb => rsameB_any (szAll l) l y va vb w' (Nat.le_refl _) ta tb)
      clear K hs hr h7 hdoc ht dT dF jT jF hsm2 he2 he3 hsm hlt hjf
      go_enter Tryz.func11, Tryz.ntmps11
      go_wp2_with fail
      refine (HA.out _).mono ?_
      rintro e' w2 ⟨rfl, b2⟩
      have HB2 := Lib.hid b2
      clear b2 HA
      go_wp2_with fail
      refine (HSp.out _).mono ?_
      rintro e' w3 ⟨u, rfl, hown, b3⟩
      have HRd : Hid (Rd w3 u L) := Lib.hid (Rd.of_own hown)
      obtain ⟨ua, uc, rfl⟩ := HRd.out.len
      have HB3 := Lib.hid (HB2.out.trans (b3.mono HB2.out.size))
      clear hown b3 HSp
      go_wp2_with fail
      refine (HD.out _).mono ?_
      rintro e' w4 ⟨u1, rfl, t1, b4⟩
      have HT1 := Lib.hid t1
      have HRd4 := Lib.hid (HRd.out.below b4)
      have HB4 := Lib.hid (HB3.out.trans (b4.mono HB3.out.size))
      clear t1 b4 HD HRd
      go_wp2_with fail
      refine (HL.out _ _ HRd4.out).mono ?_
      rintro e' w5 ⟨u2, rfl, t2, b5⟩
      have HT2 := Lib.hid t2
      have HT15 := Lib.hid (HT1.out.below b5)
      have HRd5 := Lib.hid (HRd4.out.below b5)
      have HB5 := Lib.hid (HB4.out.trans (b5.mono HB4.out.size))
      clear t2 b5 HL HT1 HRd4
      go_wp2_with fail
      refine (HJF.out _ _ HRd5.out).mono ?_
      rintro e' w6 ⟨rfl, rfl⟩
      go_wp2_with fail
      refine (HDF.out _).mono ?_
      rintro e' w6 ⟨u3, rfl, t3, b6⟩
      have HT3 := Lib.hid t3
      have HT16 := Lib.hid (HT15.out.below b6)
      have HT26 := Lib.hid (HT2.out.below b6)
      have HRd6 := Lib.hid (HRd5.out.below b6)
      have HB6 := Lib.hid (HB5.out.trans (b6.mono HB5.out.size))
      clear t3 b6 HDF HT15 HT2 HRd5
      go_wp2_with fail
      refine (HJT.out _ _ HRd6.out).mono ?_
      rintro e' w7 ⟨rfl, rfl⟩
      go_wp2_with fail
      refine (HDT.out _).mono ?_
      rintro e' w7 ⟨u4, rfl, t4, b7⟩
      have HT4 := Lib.hid t4
      have HT17 := Lib.hid (HT16.out.below b7)
      have HT27 := Lib.hid (HT26.out.below b7)
      have HT37 := Lib.hid (HT3.out.below b7)
      have HRd7 := Lib.hid (HRd6.out.below b7)
      have HB7 := Lib.hid (HB6.out.trans (b7.mono HB6.out.size))
      clear t4 b7 HDT HT16 HT26 HT3 HRd6 HJT HJF
      go_wp2_with fail
      refine (HS.out _ _ _ HT17.out HT27.out).mono ?_
      rintro e' w8 ⟨rfl, b8⟩
      have HT18 := Lib.hid (HT17.out.below b8)
      have HT48 := Lib.hid (HT4.out.below b8)
      have HT38 := Lib.hid (HT37.out.below b8)
      have HRd8 := Lib.hid (HRd7.out.below b8)
      have HB8 := Lib.hid (HB7.out.trans (b8.mono HB7.out.size))
      clear b8 HT17 HT27 HT4 HT37 HRd7
      go_wp2_with fail
      refine (HS.out _ _ _ HT18.out HT48.out).mono ?_
      rintro e' w9 ⟨rfl, b9⟩
      have HT19 := Lib.hid (HT18.out.below b9)
      have HT39 := Lib.hid (HT38.out.below b9)
      have HRd9 := Lib.hid (HRd8.out.below b9)
      have HB9 := Lib.hid (HB8.out.trans (b9.mono HB8.out.size))
      clear b9 HT18 HT48 HT38 HRd8
      by_cases h0 : 0 < L.length
      · have q1 : decide ((L.length : Int) > 0) = true := decide_eq_true (by omega)
        have q2 : decide ((0 : Int) < (L.length : Int)) = true := decide_eq_true (by omega)
        have q3 : decide (0 < L.length) = true := decide_eq_true h0
        have wl : IntKind.i64.wrap ((L.length : Int) - 1) = ((L.length - 1 : Nat) : Int) := by rw [IntKind.wrap_i64]; omega
        obtain ⟨n1, hn1⟩ : ∃ q, q = L.length - 1 := ⟨_, rfl⟩
        rw [← hn1] at wl
        have hn1l : n1 < L.length := by omega
        have hn1i : (n1 : Int) < (L.length : Int) := by omega
        obtain ⟨b, of, rfl, c0⟩ := Bt.Rd.at HRd9.out n1 hn1l
        have hlast : L.getLast? = some L[n1] := by
          rw [List.getLast?_eq_getElem?, ← hn1, List.getElem?_eq_getElem hn1l]
        by_cases hE : L[n1] = []
        · have em : ((S L[n1]).toList == ([] : List UInt8)) = true := by rw [hE, S_toList]; rfl
          clear hlast hE hn1 h0
          generalize S L[n1] = sx at *
          go_wp2_with fail
          go_ret
          exact ⟨rfl, HB9.out⟩
        · have em : ((S L[n1]).toList == ([] : List UInt8)) = false := by rw [S_toList, beq_eq_false_iff_ne]; exact hE
          have hY := HdF.out (by rw [hlast]; simp [hE])
          simp only [Prod.mk.injEq] at hY
          obtain ⟨rfl, rfl⟩ := hY
          have hsm2 : smB y y = true := (smB_iff y y).2 rfl
          simp only [hsm2] at HSF
          clear hlast hE hn1 h0 HdF hsm2
          generalize S L[n1] = sx at *
          go_wp2_with fail
          refine (HSF.out _ _ _ HT19.out HT39.out).mono ?_
          rintro e' w10 ⟨rfl, b10⟩
          have HB10 := Lib.hid (HB9.out.trans (b10.mono HB9.out.size))
          clear b10
          go_wp2_with fail
          go_ret
          exact ⟨ret_bool (by simp), HB10.out⟩
      · have q1 : decide ((L.length : Int) > 0) = false := decide_eq_false (by omega)
        have q2 : decide ((0 : Int) < (L.length : Int)) = false := decide_eq_false (by omega)
        have q3 : decide (0 < L.length) = false := decide_eq_false h0
        have hL0 : L = [] := List.eq_nil_of_length_eq_zero (by omega)
        have hY := HdF.out (by rw [hL0]; simp)
        simp only [Prod.mk.injEq] at hY
        obtain ⟨rfl, rfl⟩ := hY
        have hsm2 : smB y y = true := (smB_iff y y).2 rfl
        simp only [hsm2] at HSF
        clear h0 HdF hsm2 hL0
        go_wp2_with fail
        refine (HSF.out _ _ _ HT19.out HT39.out).mono ?_
        rintro e' w10 ⟨rfl, b10⟩
        have HB10 := Lib.hid (HB9.out.trans (b10.mono HB9.out.size))
        clear b10
        go_wp2_with fail
        go_ret
        exact ⟨ret_bool (by simp), HB10.out⟩
  · have g1 : decide ((s.size : Int) > 700) = true := decide_eq_true (by omega)
    have g2 : decide ((700 : Int) < (s.size : Int)) = true := decide_eq_true (by omega)
    have g3 : decide (700 < s.size) = true := decide_eq_true (by omega)
    clear K h7
    go_enter Tryz.func11, Tryz.ntmps11
    go_wp2_with fail
    refine (HA.out _).mono ?_
    rintro e w2 ⟨rfl, b2⟩
    have HB2 := Lib.hid b2
    clear b2
    go_wp2_with fail
    refine (HA.out _).mono ?_
    rintro e w3 ⟨rfl, b3⟩
    have HB3 := Lib.hid (HB2.out.trans (b3.mono HB2.out.size))
    clear b3
    go_wp2_with fail
    go_ret
    exact ⟨rfl, HB3.out⟩
end Go.Proofs.YtihihgfcklkkhaaGreatDoor.Pa
