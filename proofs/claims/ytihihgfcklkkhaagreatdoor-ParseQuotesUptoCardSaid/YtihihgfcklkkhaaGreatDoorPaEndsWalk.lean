import Derived.Test.YtihihgfcklkkhaaGreatDoorPkAB
import Derived.Test.YtihihgfcklkkhaaGreatDoorPkAE
namespace Go.Proofs.YtihihgfcklkkhaaGreatDoor.Pa
open Go.RowKit
open Go.Proofs.YtihihgfcklkkhaaGreatDoor.Tk (S S_of S_list S_size S_toList S_app ret_int eq8 ne8 at_data len_data Rd)
open Go.Proofs.YtihihgfcklkkhaaGreatDoor.Sp (ret_bool OkAns V V_app Wt)
open Go.Proofs.YtihihgfcklkkhaaGreatDoor.Bt (TrB smB smB_iff rsameB_any szAll)
open Go.Proofs.YtihihgfcklkkhaaGreatDoor.Bk (Tx Bk kindOf)
open Go.Proofs.YtihihgfcklkkhaaGreatDoor.Ln (jn)
open Go.Proofs.YtihihgfcklkkhaaGreatDoor.Utf (chk)
set_option linter.unusedVariables false
theorem lnB_lt {s : Tx} (h : lnB s = true) : Lt s := by
  unfold lnB at h
  rw [Bool.and_eq_true, decide_eq_true_iff, decide_eq_true_iff] at h
  have hz := (Utf.chk_zero_iff (S s)).1 h.1
  have h0 : (0 : UInt8) ∉ s := by
    have := hz.2.1
    unfold Utf.zeroB at this
    have h1 := of_decide_eq_false this
    rwa [S_list] at h1
  exact ⟨⟨hz.2.2, h0, Ln.mx_zero 13 s (by omega)⟩, Ln.mx_zero 10 s (by omega)⟩
theorem fits_lt {l : List Tx} {m : Nat} (h : fitsB l m = true) : (∀ s ∈ l, Lt s) ∧ tot l ≤ m := by
  unfold fitsB at h
  rw [Bool.and_eq_true, decide_eq_true_iff, List.all_eq_true] at h
  exact ⟨fun s hs => lnB_lt (h.1 s hs), h.2⟩
def flN : List Tx → Tx
  | [] => []
  | x :: r => x ++ 10 :: flN r
def flR : List Tx → Tx
  | [] => []
  | x :: r => x ++ 13 :: 10 :: flR r
theorem flN_snoc (x : Tx) : ∀ l : List Tx, flN (l ++ [x]) = flN l ++ (x ++ [10])
  | [] => rfl
  | y :: r => by rw [List.cons_append, flN, flN, flN_snoc x r, List.append_assoc]; rfl
theorem flR_snoc (x : Tx) : ∀ l : List Tx, flR (l ++ [x]) = flR l ++ (x ++ [13, 10])
  | [] => rfl
  | y :: r => by rw [List.cons_append, flR, flR, flR_snoc x r, List.append_assoc]; rfl
theorem flN_jn : ∀ l : List Tx, jn l true = flN l
  | [] => rfl
  | [x] => rfl
  | x :: y :: r => by
    have ih := flN_jn (y :: r)
    rw [Ln.jn_cons2, ih]
    rfl
theorem flN_len : ∀ l : List Tx, (flN l).length = tot l
  | [] => rfl
  | x :: r => by rw [flN, tot, List.length_append, List.length_cons, flN_len r]; omega
theorem flR_len : ∀ l : List Tx, (flR l).length ≤ 2 * tot l
  | [] => Nat.zero_le _
  | x :: r => by have := flR_len r; rw [flR, tot, List.length_append, List.length_cons, List.length_cons]; omega
theorem v_chk {t : Tx} (h : V t) (h0 : (0 : UInt8) ∉ t) (hl : t.length ≤ 1000000) : chk (S t) = 0 := by
  refine (Utf.chk_zero_iff (S t)).2 ⟨by rw [S_size]; omega, ?_, h⟩
  unfold Utf.zeroB
  rw [S_list]
  exact decide_eq_false h0
theorem flR_v : ∀ l : List Tx, (∀ x ∈ l, Lt x) → V (flR l) ∧ (0 : UInt8) ∉ flR l
  | [], _ => ⟨Sp.V_nil, by simp [flR]⟩
  | x :: r, h => by
    have hx := h x (List.mem_cons_self ..)
    obtain ⟨i1, i2⟩ := flR_v r (fun y hy => h y (List.mem_cons_of_mem _ hy))
    refine ⟨V_app hx.1.1 (V_app (a := [13]) (Sp.V_one (by decide)) (V_app (a := [10]) (Sp.V_one (by decide)) i1)), ?_⟩
    rw [flR]
    intro hm
    rcases List.mem_append.1 hm with hm | hm
    · exact hx.1.2.1 hm
    · simp at hm
      exact i2 hm
theorem split_flR : ∀ l : List Tx, (∀ x ∈ l, Lt x) → (Ln.ls [] (flR l)).1 = l
  | [], _ => rfl
  | x :: r, h => by
    have hx := h x (List.mem_cons_self ..)
    have ih := split_flR r (fun y hy => h y (List.mem_cons_of_mem _ hy))
    rw [flR, Ln.ls_run _ x [] hx.2 hx.1.2.2, List.nil_append, Ln.ls_two, ih]
theorem doc_R {l : List Tx} (h : ∀ x ∈ l, Lt x) (ht : tot l ≤ 400000) : docB ([10, 32, 10] ++ flR l) = lnsB l := by
  obtain ⟨h1, h2⟩ := flR_v l h
  have hl := flR_len l
  have hc : chk (S ([10, 32, 10] ++ flR l)) = 0 := v_chk (V_app (a := [10, 32, 10]) (V_app (a := [10]) (Sp.V_one (by decide)) (V_app (a := [32]) (Sp.V_one (by decide)) (Sp.V_one (by decide)))) h1) (fun hm => by
    rcases List.mem_append.1 hm with hm | hm
    · exact absurd hm (by decide)
    · exact h2 hm) (by rw [List.length_append]; simp only [List.length_cons, List.length_nil]; omega)
  unfold docB
  rw [if_pos hc]
  have hs : (Ln.split ([10, 32, 10] ++ flR l)).1 = [] :: [32] :: l := by
    show (Ln.ls [] (10 :: 32 :: 10 :: flR l)).1 = _
    rw [Ln.ls_lf, Ln.ls_on [] 32 _ (by decide) (by decide), Ln.ls_lf, split_flR l h]
    rfl
  rw [hs]
  unfold lnsB
  rw [ends_front]
theorem doc_N {l : List Tx} (h : ∀ x ∈ l, Lt x) (ht : tot l ≤ 800000) : docB (flN l) = lnsB l := by rw [← flN_jn]; exact doc_jn_true h (Nat.le_trans ht (by decide))
theorem doc_N1 {l : List Tx} (h : ∀ x ∈ l, Lt x) (ht : tot l ≤ 400000) : docB (flN l ++ [10]) = lnsB (l ++ [[]]) := by
  have : flN l ++ [10] = flN (l ++ [[]]) := by rw [flN_snoc]; rfl
  rw [this]
  have hto : tot (l ++ [[]]) ≤ 800000 := by rw [tot_app]; simp only [tot, List.length_nil]; omega
  refine doc_N (fun x hx => ?_) hto
  rcases List.mem_append.1 hx with hx | hx
  · exact h x hx
  · rw [List.mem_singleton] at hx; subst hx; exact Lt_nil
theorem lns_back (l : List Tx) : (lnsB (l ++ [[]])).2 = (lnsB l).2 ∧ ((∀ z, (lnsB l).1.getLast? = some z → z.kind ≠ 4) → (lnsB (l ++ [[]])).1 = (lnsB l).1) := by
  obtain ⟨h1, h2⟩ := ends_back l
  unfold lnsB
  cases hx : allE 0 l with
  | none => rw [h1 hx]; exact ⟨rfl, fun _ => rfl⟩
  | some x =>
    obtain ⟨y, hy, hyx⟩ := h2 x hx
    rw [hy]
    exact ⟨rfl, hyx⟩
set_option maxHeartbeats 6400000 in
theorem parseEnds_walk (K : Told12) (w : World) (v : Value) (xs : List Tx) (hr : Rd w v xs) (hb : tot xs ≤ 2100000) :
    Calls Tryz.prog 8 #[v] w (OkAns w true) := by
  obtain ⟨ao, ca, rfl⟩ := hr.len
  have HA := Lib.hid (awake12_any K)
  have hcast : ((700 : Nat) : Int) = 700 := rfl
  have HF := Lib.hid (fun w' (h : Below w.heap.size w w') => fits_any _ xs w' (hr.below h) (by omega) 700 (by omega))
  simp only [hcast] at HF
  clear hcast
  cases hfit : fitsB xs 700 with
  | false =>
    simp only [hfit] at HF
    clear K hr hfit
    go_enter Tryz.func8, Tryz.ntmps8
    go_wp2_with fail
    refine (HA.out _).mono ?_
    rintro e w2 ⟨rfl, b2⟩
    have HB2 := Lib.hid b2
    clear b2
    go_wp2_with fail
    refine (HF.out _ HB2.out).mono ?_
    rintro e w3 ⟨rfl, b3⟩
    have HB3 := Lib.hid (HB2.out.trans (b3.mono HB2.out.size))
    clear b3 HF
    go_wp2_with fail
    refine (HA.out _).mono ?_
    rintro e w4 ⟨rfl, b4⟩
    have HB4 := Lib.hid (HB3.out.trans (b4.mono HB3.out.size))
    clear b4
    go_wp2_with fail
    go_ret
    exact ⟨rfl, HB4.out⟩
  | true =>
    obtain ⟨hlt, ht⟩ := fits_lt hfit
    simp only [hfit] at HF
    have hlen : xs.length ≤ 700 := Nat.le_trans (tot_len xs) ht
    have hlR := flR_len xs
    have hlN := flN_len xs
    have HDN : Hid (∀ w', Calls Tryz.prog 13 #[.string (S (flN xs))] w' (LnsAns w' (lnsB xs))) := Lib.hid (fun w' => by
      have h := K.doc (S (flN xs)) w' (by rw [S_size]; omega)
      rw [S_list, doc_N hlt (by omega)] at h
      exact h)
    have HDR : Hid (∀ w', Calls Tryz.prog 13 #[.string (S ([10, 32, 10] ++ flR xs))] w' (LnsAns w' (lnsB xs))) := Lib.hid (fun w' => by
      have h := K.doc (S ([10, 32, 10] ++ flR xs)) w' (by rw [S_size, List.length_append]; simp only [List.length_cons, List.length_nil]; omega)
      rw [S_list, doc_R hlt (by omega)] at h
      exact h)
    have HDC : Hid (∀ w', Calls Tryz.prog 13 #[.string (S (flN xs ++ [10]))] w' (LnsAns w' (lnsB (xs ++ [[]])))) := Lib.hid (fun w' => by
      have h := K.doc (S (flN xs ++ [10])) w' (by rw [S_size, List.length_append]; simp only [List.length_cons, List.length_nil]; omega)
      rw [S_list, doc_N1 hlt (by omega)] at h
      exact h)
    obtain ⟨hk1, hk2⟩ := lns_back xs
    unfold LnsAns at HDN HDR HDC
    rw [hk1] at HDC
    generalize (lnsB (xs ++ [[]])).1 = y at *
    generalize lnsB xs = X at *
    obtain ⟨x, e⟩ := X
    simp only at HDN HDR HDC hk2
    have HS := Lib.hid (fun va vb w' ta tb => rsameB_any (szAll x) x x va vb w' (Nat.le_refl _) ta tb)
    have hsm2 : smB x x = true := (smB_iff x x).2 rfl
    simp only [hsm2] at HS
    have HSC := Lib.hid (fun va vb w' ta tb => rsameB_any (szAll y) y x va vb w' (Nat.le_refl _) ta tb)
    have Hk2 := Lib.hid hk2
    have HRd := Lib.hid (fun w' (h : Below w.heap.size w w') => Bt.Rd.at (hr.below h))
    have Htn := Lib.hid (fun j => Nat.le_trans (Nat.le_of_eq (flN_len (xs.take j))) (Nat.le_trans (tot_take xs j) ht))
    have Htr := Lib.hid (fun j => Nat.le_trans (flR_len (xs.take j)) (Nat.mul_le_mul_left 2 (Nat.le_trans (tot_take xs j) ht)))
    have Hsz := Lib.hid (fun j (hj : j < xs.length) => Nat.le_trans (tot_mem xs xs[j] (List.getElem_mem hj)) ht)
    have Hnx := Lib.hid (fun j (hj : j < xs.length) => (List.take_succ_eq_append_getElem hj : xs.take (j + 1) = xs.take j ++ [xs[j]]))
    clear K hr hfit hlt ht hk1 hk2 hsm2 hlR hlN
    go_enter Tryz.func8, Tryz.ntmps8
    go_wp2_with fail
    refine (HA.out _).mono ?_
    rintro e' w2 ⟨rfl, b2⟩
    have HB2 := Lib.hid b2
    clear b2
    go_wp2_with fail
    refine (HF.out _ HB2.out).mono ?_
    rintro e' w3 ⟨rfl, b3⟩
    have HB3 := Lib.hid (HB2.out.trans (b3.mono HB2.out.size))
    clear b3 HF HA
    go_wp2_with fail
    go_loopw [3, 4, 22] (fun av bv iv wr => ∃ (j : Nat) (sa sb : ByteArray), j ≤ xs.length ∧ iv = .int .i64 j ∧ av = .string sa ∧ bv = .string sb ∧ sa.size ≤ 1000 ∧ sb.size ≤ 2000 ∧ wr = w3 ∧ Hid (sa = S (flN (xs.take j)) ∧ sb = S ([10, 32, 10] ++ flR (xs.take j)))) (fun _ _ iv _ => xs.length - (intOf iv).toNat)
    case atStart => exact ⟨0, ⟨#[]⟩, ⟨#[10, 32, 10]⟩, Nat.zero_le _, rfl, rfl, rfl, by decide, by decide, rfl, Lib.hid ⟨rfl, rfl⟩⟩
    case round =>
      obtain ⟨j, sa, sb, hj, rfl, rfl, rfl, hza, hzb, rfl, HSt⟩ := hrel
      by_cases hjl : j < xs.length
      · have hji : (j : Int) < (xs.length : Int) := by omega
        obtain ⟨b, of, rfl, c0⟩ := HRd.out wr HB3.out j hjl
        have hnx := Hnx.out j hjl
        have hsz := Hsz.out j hjl
        have hna := Htn.out (j + 1)
        have hnb := Htr.out (j + 1)
        have HN : Hid (sa ++ S xs[j] ++ ⟨#[10]⟩ = S (flN (xs.take (j + 1))) ∧ sb ++ S xs[j] ++ ⟨#[13, 10]⟩ = S ([10, 32, 10] ++ flR (xs.take (j + 1)))) := Lib.hid (by
          rw [HSt.out.1, HSt.out.2, hnx, flN_snoc, flR_snoc, show (⟨#[10]⟩ : ByteArray) = S [10] from rfl, show (⟨#[13, 10]⟩ : ByteArray) = S [13, 10] from rfl, S_app, S_app, S_app, S_app, List.append_assoc, List.append_assoc, List.append_assoc]
          exact ⟨rfl, rfl⟩)
        have hza2 : (sa ++ S xs[j] ++ ⟨#[10]⟩).size ≤ 1000 := by rw [HN.out.1, S_size]; omega
        have hzb2 : (sb ++ S xs[j] ++ ⟨#[13, 10]⟩).size ≤ 2000 := by rw [HN.out.2, S_size, List.length_append]; simp only [List.length_cons, List.length_nil]; omega
        have Hza := Lib.hid hza2
        have Hzb := Lib.hid hzb2
        have hzx : (S xs[j]).size ≤ 700 := by rw [S_size]; omega
        clear hnx hsz hna hnb hza2 hzb2 HSt
        generalize S xs[j] = sx at *
        have h10 : (⟨#[10]⟩ : ByteArray).size = 1 := rfl
        have h13 : (⟨#[13, 10]⟩ : ByteArray).size = 2 := rfl
        go_wp2_with fail
        go_roundw
        case rel => exact ⟨j + 1, _, _, by omega, by go_num, rfl, rfl, Hza.out, Hzb.out, by first | exact rfl | exact trivial, HN⟩
        case measure => simp [intOf] <;> omega
      · obtain rfl : j = xs.length := by omega
        have hfull := HSt.out
        rw [List.take_length] at hfull
        have HSa : Hid (S (flN xs) = sa) := Lib.hid hfull.1.symm
        have HSb : Hid (S ([10, 32, 10] ++ flR xs) = sb) := Lib.hid hfull.2.symm
        have HSc : Hid (S (flN xs ++ [10]) = sa ++ ⟨#[10]⟩) := Lib.hid (by rw [hfull.1, show (⟨#[10]⟩ : ByteArray) = S [10] from rfl, S_app])
        rw [HSa.out] at HDN
        rw [HSb.out] at HDR
        rw [HSc.out] at HDC
        have h10 : (⟨#[10]⟩ : ByteArray).size = 1 := rfl
        clear hjl hfull HSt HRd Htn Htr Hsz Hnx
        go_wp2_with fail
        refine (HDN.out _).mono ?_
        rintro e' w4 ⟨u1, rfl, t1, b4⟩
        have HT1 := Lib.hid t1
        have HB4 := Lib.hid (HB3.out.trans (b4.mono HB3.out.size))
        clear t1 b4 HDN
        go_wp2_with fail
        refine (HDR.out _).mono ?_
        rintro e' w5 ⟨u2, rfl, t2, b5⟩
        have HT2 := Lib.hid t2
        have HT15 := Lib.hid (HT1.out.below b5)
        have HB5 := Lib.hid (HB4.out.trans (b5.mono HB4.out.size))
        clear t2 b5 HDR HT1
        go_wp2_with fail
        refine (HDC.out _).mono ?_
        rintro e' w6 ⟨u3, rfl, t3, b6⟩
        have HT3 := Lib.hid t3
        have HT16 := Lib.hid (HT15.out.below b6)
        have HT26 := Lib.hid (HT2.out.below b6)
        have HB6 := Lib.hid (HB5.out.trans (b6.mono HB5.out.size))
        obtain ⟨a1, c1, rfl⟩ := HT16.out.len
        clear t3 b6 HDC HT15 HT2
        go_wp2_with fail
        refine (HS.out _ _ _ HT16.out HT26.out).mono ?_
        rintro e' w7 ⟨rfl, b7⟩
        have HT17 := Lib.hid (HT16.out.below b7)
        have HT37 := Lib.hid (HT3.out.below b7)
        have HB7 := Lib.hid (HB6.out.trans (b7.mono HB6.out.size))
        clear b7 HT16 HT26 HT3 HS
        by_cases h0 : 0 < x.length
        · have q1 : decide ((x.length : Int) > 0) = true := decide_eq_true (by omega)
          have q2 : decide ((0 : Int) < (x.length : Int)) = true := decide_eq_true (by omega)
          have q3 : decide (0 < x.length) = true := decide_eq_true h0
          obtain ⟨n1, hn1⟩ : ∃ q, q = x.length - 1 := ⟨_, rfl⟩
          have hshort := HT17.out.short
          have wl : IntKind.i64.wrap ((x.length : Int) - 1) = (n1 : Int) := by rw [IntKind.wrap_i64]; omega
          have hn1l : n1 < x.length := by omega
          have hn1i : (n1 : Int) < (x.length : Int) := by omega
          obtain ⟨b, o, _, _, _, _, rfl, _, hc⟩ := HT17.out.at n1 hn1l
          have k0 := hc.kind
          have hlast : x.getLast? = some x[n1] := by rw [List.getLast?_eq_getElem?, ← hn1, List.getElem?_eq_getElem hn1l]
          by_cases h4 : x[n1].kind = 4
          · rw [h4] at k0
            clear hlast h4 hn1 h0 hc hshort Hk2
            go_wp2_with fail
            go_ret
            exact ⟨ret_bool (by simp), HB7.out⟩
          · have hyx := Hk2.out (fun z hz => by rw [hlast] at hz; injection hz with hz; rw [← hz]; exact h4)
            subst hyx
            have hsm2 : smB y y = true := (smB_iff y y).2 rfl
            simp only [hsm2] at HSC
            have e4 : (y[n1].kind == 4) = false := by rw [beq_eq_false_iff_ne]; exact h4
            obtain ⟨kk, hkk⟩ : ∃ q, y[n1].kind = q := ⟨_, rfl⟩
            rw [hkk] at k0 e4
            clear hlast h4 hn1 h0 hc hshort Hk2 hsm2 hkk
            go_wp2_with fail
            refine (HSC.out _ _ _ HT37.out HT17.out).mono ?_
            rintro e' w8 ⟨rfl, b8⟩
            have HB8 := Lib.hid (HB7.out.trans (b8.mono HB7.out.size))
            clear b8
            go_wp2_with fail
            go_ret
            exact ⟨ret_bool (by simp), HB8.out⟩
        · have q1 : decide ((x.length : Int) > 0) = false := decide_eq_false (by omega)
          have q2 : decide ((0 : Int) < (x.length : Int)) = false := decide_eq_false (by omega)
          have q3 : decide (0 < x.length) = false := decide_eq_false h0
          have hx0 : x = [] := List.eq_nil_of_length_eq_zero (by omega)
          have hyx := Hk2.out (fun z hz => by rw [hx0] at hz; cases hz)
          subst hyx
          have hsm2 : smB y y = true := (smB_iff y y).2 rfl
          simp only [hsm2] at HSC
          clear hx0 h0 Hk2 hsm2
          go_wp2_with fail
          refine (HSC.out _ _ _ HT37.out HT17.out).mono ?_
          rintro e' w8 ⟨rfl, b8⟩
          have HB8 := Lib.hid (HB7.out.trans (b8.mono HB7.out.size))
          clear b8
          go_wp2_with fail
          go_ret
          exact ⟨ret_bool (by simp), HB8.out⟩
end Go.Proofs.YtihihgfcklkkhaaGreatDoor.Pa
