/-
  THE WALK of the statement HtmlWraps (of what is not too much for a machine); written by gen_wraps.py.
-/
import Derived.Test.YtpakjdgddomdjaaDoorHtShowsWalk
import Derived.Test.YtpakjdgddomdjaaDoorSpTold
namespace Go.Proofs.YtpakjdgddomdjaaDoor.Ht
open Go.RowKit
open Go.Proofs.YtpakjdgddomdjaaDoor.Tk (S S_of S_list S_size S_toList S_app Rd)
open Go.Proofs.YtpakjdgddomdjaaDoor.Sp (Sp Tr totAll)
open Go.Proofs.YtpakjdgddomdjaaDoor.Bt (TrB ttAll szAll)
open Go.Proofs.YtpakjdgddomdjaaDoor.Bk (Bk Tx)
set_option linter.unusedVariables false

theorem fitL {l : List Bk} (h : Bt.fitAll 140737488355328 l) (k : Int) (hk : -9223372036854775808 ≤ k ∧ k ≤ 9223372036854775807) : Bt.fitAll 140737488355328 [.mk k 0 [] [] [] l] := by
  simp only [Bt.fitAll, Bt.fitOne, Sp.fitAll]
  simp [hk, h]
theorem fitS {x : List Sp} (h : Sp.fitAll 140737488355328 x) : Bt.fitAll 140737488355328 [.mk 1 0 [] [] x []] := by
  simp only [Bt.fitAll, Bt.fitOne]
  simp [h]
theorem wrapQ (l : List Bk) : hbAll [.mk 5 0 [] [] [] l] = ctT nQ (hbAll l) := by rw [hbAll_cons, hbOne_eq, hbAll, List.append_nil]; rfl
theorem wrapL (l : List Bk) : hbAll [.mk 6 0 [] [] [] [.mk 7 0 [] [] [] l]] = ctT nL (ctT nI (hbAll l)) := by
  rw [hbAll_cons, hbOne_eq, hbAll, List.append_nil]
  show ctT nL (hbAll [.mk 7 0 [] [] [] l]) = _
  rw [hbAll_cons, hbOne_eq, hbAll, List.append_nil]
  rfl
theorem wrapP (x : List Sp) : hbAll [.mk 1 0 [] [] x []] = lnT [112] (hsAll x) := by rw [hbAll_cons, hbOne_eq, hbAll, List.append_nil]; rfl
theorem wrapE (x : List Sp) : hsAll [.mk 3 [] x] = [60, 101, 109, 62] ++ (hsAll x ++ [60, 47, 101, 109, 62]) := by rw [hsAll_cons, hsOne_eq, hsAll, List.append_nil]; rfl
/-- A literal of a paragraph. -/
theorem litP {w : World} {as' : Option Addr} {sn cs : Nat} {x : List Sp} (h : Tr w (.slice as' sn cs) x) :
    TrB (w.alloc (.cells #[.int .i64 1, .int .i64 0, .string ⟨#[]⟩, .slice none 0 0, .slice as' sn cs, .slice none 0 0] 35)) (.slice (some ⟨w.heap.size, 0, none⟩) 1 1) [.mk 1 0 [] [] x []] :=
  Bt.litB (k := 1) (lv := 0) (i := []) (Bt.nilR w) (by simp) h (Bt.nilB w) 35
theorem litK {w : World} {ak : Option Addr} {kn ck : Nat} {l : List Bk} (k : Int) (h : TrB w (.slice ak kn ck) l) :
    TrB (w.alloc (.cells #[.int .i64 k, .int .i64 0, .string ⟨#[]⟩, .slice none 0 0, .slice none 0 0, .slice ak kn ck] 35)) (.slice (some ⟨w.heap.size, 0, none⟩) 1 1) [.mk k 0 [] [] [] l] :=
  Bt.litB (k := k) (lv := 0) (i := []) (Bt.nilR w) (by simp) (Bt.nilS w) h 35
theorem litE {w : World} {as' : Option Addr} {sn cs : Nat} {x : List Sp} (h : Tr w (.slice as' sn cs) x) :
    Tr (w.alloc (.cells #[.int .i64 3, .string ⟨#[]⟩, .slice as' sn cs] 37)) (.slice (some ⟨w.heap.size, 0, none⟩) 1 1) [.mk 3 [] x] :=
  Sp.tr_one (q := 3) (s := []) h 37
set_option maxHeartbeats 6400000 in
set_option maxRecDepth 100000 in
theorem htmlWraps_walk (w : World) (vl : Value) (l : List Bk) (rl : TrB w vl l) (fl : Bt.fitAll reachBytes l) (tl : ttAll l ≤ 1048576) (vx : Value) (x : List Sp) (rx : Tr w vx x) (fx : Sp.fitAll reachBytes x) :
    Calls Tryd.prog 6 #[vl, vx] w (BoolA w true) := by
  have hbl := hbAll_len l
  have hbx := hsAll_len x
  have HA := Lib.hid awake14_any
  have FA := Lib.hid (fun w' (h : Below w.heap.size w w') => few14_any l _ w' (rl.below h) fl)
  have ZA := Lib.hid (fun w' (h : Below w.heap.size w w') => Sp.size_any x _ w' (rx.below h) fx)
  have hf := fitB fl
  have hfx := Sp.fit_reach fx
  have B1 := Lib.hid (fun w' (h : Below w.heap.size w w') => blocksH_any l _ w' (rl.below h) hf (by omega))
  have lQ := ctT_len nQ (hbAll l)
  have lI := ctT_len nI (hbAll l)
  have lL := ctT_len nL (ctT nI (hbAll l))
  have lP := lnT_len [112] (hsAll x)
  have e1 : nQ.length = 10 := rfl
  have e2 : nI.length = 2 := rfl
  have e3 : nL.length = 2 := rfl
  have e4 : ([112] : Tx).length = 1 := rfl
  have BQ := Lib.hid (fun v w' (h : TrB w' v [.mk 5 0 [] [] [] l]) => blocksH_any _ v w' h (fitL hf 5 (by omega)) (by rw [wrapQ]; omega))
  have BL := Lib.hid (fun v w' (h : TrB w' v [.mk 6 0 [] [] [] [.mk 7 0 [] [] [] l]]) => blocksH_any _ v w' h (fitL (fitL hf 7 (by omega)) 6 (by omega)) (by rw [wrapL]; omega))
  have BP := Lib.hid (fun v w' (ht : totAll x ≤ 2000) (h : TrB w' v [.mk 1 0 [] [] x []]) => blocksH_any _ v w' h (fitS hfx) (by rw [wrapP]; omega))
  have BE := Lib.hid (fun v w' (ht : totAll x ≤ 2000) (h : Tr w' v [.mk 3 [] x]) => spansH_any _ v w' h (by rw [wrapE]; simp only [List.length_append, List.length_cons, List.length_nil]; omega))
  have C1 := Lib.hid (fun w' (h : Below w.heap.size w w') (ht : totAll x ≤ 2000) => spansH_any x _ w' (rx.below h) (by omega))
  have HT := Lib.hid (@size_tot x)
  have RL := Lib.hid rl
  have RX := Lib.hid rx
  have ly : (hbAll l).length ≤ 60000000 := by omega
  have lx : Hid (totAll x ≤ 2000 → (hsAll x).length ≤ 36000) := Lib.hid (fun h => by omega)
  simp only [wrapQ] at BQ
  simp only [wrapL] at BL
  simp only [wrapP] at BP
  simp only [wrapE] at BE
  unfold BoolA at HA FA ⊢
  obtain ⟨al, cl, rfl⟩ := rl.len
  obtain ⟨ax, cx, rfl⟩ := rx.len
  clear rl fl tl rx fx hbl hbx hf hfx lQ lI lL lP e1 e2 e3 e4
  generalize decide (Bt.spAll 40 5000 0 l < 3000) = f at *
  generalize Sp.spAll 30 5000 0 x = z at *
  generalize hbAll l = y at *
  generalize hsAll x = q at *
  generalize hln : l.length = ln at *
  generalize hxn : x.length = xn at *
  have zy : (S y).size = y.length := S_size _
  have zq : (S q).size = q.length := S_size _
  have zl60_98_108_111_99_107_113_117_111_116_101_62_10 : (⟨#[60, 98, 108, 111, 99, 107, 113, 117, 111, 116, 101, 62, 10]⟩ : ByteArray).size = 13 := rfl
  have ggQ0 : ¬ 9223372036854775807 < ((⟨#[60, 98, 108, 111, 99, 107, 113, 117, 111, 116, 101, 62, 10]⟩ : ByteArray)).size + (S y).size := by omega
  have yyQ0 : ((⟨#[60, 98, 108, 111, 99, 107, 113, 117, 111, 116, 101, 62, 10]⟩ : ByteArray) ++ S y).size = 13 + y.length := by rw [ByteArray.size_append]; omega
  have zl60_47_98_108_111_99_107_113_117_111_116_101_62_10 : (⟨#[60, 47, 98, 108, 111, 99, 107, 113, 117, 111, 116, 101, 62, 10]⟩ : ByteArray).size = 14 := rfl
  have ggQ1 : ¬ 9223372036854775807 < ((⟨#[60, 98, 108, 111, 99, 107, 113, 117, 111, 116, 101, 62, 10]⟩ : ByteArray) ++ S y).size + ((⟨#[60, 47, 98, 108, 111, 99, 107, 113, 117, 111, 116, 101, 62, 10]⟩ : ByteArray)).size := by omega
  have yyQ1 : ((⟨#[60, 98, 108, 111, 99, 107, 113, 117, 111, 116, 101, 62, 10]⟩ : ByteArray) ++ S y ++ (⟨#[60, 47, 98, 108, 111, 99, 107, 113, 117, 111, 116, 101, 62, 10]⟩ : ByteArray)).size = 13 + y.length + 14 := by rw [ByteArray.size_append]; omega
  have hapQ : Hid ((⟨#[60, 98, 108, 111, 99, 107, 113, 117, 111, 116, 101, 62, 10]⟩ : ByteArray) ++ S y ++ (⟨#[60, 47, 98, 108, 111, 99, 107, 113, 117, 111, 116, 101, 62, 10]⟩ : ByteArray) = S (ctT nQ y)) := Lib.hid (by
    rw [show (⟨#[60, 98, 108, 111, 99, 107, 113, 117, 111, 116, 101, 62, 10]⟩ : ByteArray) = S [60, 98, 108, 111, 99, 107, 113, 117, 111, 116, 101, 62, 10] from rfl, show (⟨#[60, 47, 98, 108, 111, 99, 107, 113, 117, 111, 116, 101, 62, 10]⟩ : ByteArray) = S [60, 47, 98, 108, 111, 99, 107, 113, 117, 111, 116, 101, 62, 10] from rfl, S_app, S_app]
    congr 1 <;> simp [ctT, nQ])
  have zl60_117_108_62_10_60_108_105_62_10 : (⟨#[60, 117, 108, 62, 10, 60, 108, 105, 62, 10]⟩ : ByteArray).size = 10 := rfl
  have ggL0 : ¬ 9223372036854775807 < ((⟨#[60, 117, 108, 62, 10, 60, 108, 105, 62, 10]⟩ : ByteArray)).size + (S y).size := by omega
  have yyL0 : ((⟨#[60, 117, 108, 62, 10, 60, 108, 105, 62, 10]⟩ : ByteArray) ++ S y).size = 10 + y.length := by rw [ByteArray.size_append]; omega
  have zl60_47_108_105_62_10_60_47_117_108_62_10 : (⟨#[60, 47, 108, 105, 62, 10, 60, 47, 117, 108, 62, 10]⟩ : ByteArray).size = 12 := rfl
  have ggL1 : ¬ 9223372036854775807 < ((⟨#[60, 117, 108, 62, 10, 60, 108, 105, 62, 10]⟩ : ByteArray) ++ S y).size + ((⟨#[60, 47, 108, 105, 62, 10, 60, 47, 117, 108, 62, 10]⟩ : ByteArray)).size := by omega
  have yyL1 : ((⟨#[60, 117, 108, 62, 10, 60, 108, 105, 62, 10]⟩ : ByteArray) ++ S y ++ (⟨#[60, 47, 108, 105, 62, 10, 60, 47, 117, 108, 62, 10]⟩ : ByteArray)).size = 10 + y.length + 12 := by rw [ByteArray.size_append]; omega
  have hapL : Hid ((⟨#[60, 117, 108, 62, 10, 60, 108, 105, 62, 10]⟩ : ByteArray) ++ S y ++ (⟨#[60, 47, 108, 105, 62, 10, 60, 47, 117, 108, 62, 10]⟩ : ByteArray) = S (ctT nL (ctT nI y))) := Lib.hid (by
    rw [show (⟨#[60, 117, 108, 62, 10, 60, 108, 105, 62, 10]⟩ : ByteArray) = S [60, 117, 108, 62, 10, 60, 108, 105, 62, 10] from rfl, show (⟨#[60, 47, 108, 105, 62, 10, 60, 47, 117, 108, 62, 10]⟩ : ByteArray) = S [60, 47, 108, 105, 62, 10, 60, 47, 117, 108, 62, 10] from rfl, S_app, S_app]
    congr 1 <;> simp [ctT, nL, nI])
  go_enter Tryd.func6, Tryd.ntmps6
  go_wp2_with fail
  refine (HA.out _).mono ?_
  rintro e w2 ⟨rfl, b2⟩
  have H2 := Lib.hid b2
  clear b2
  go_wp2_with fail
  refine (FA.out _ H2.out).mono ?_
  rintro e w3 ⟨rfl, b⟩
  have H3 := Lib.hid (H2.out.trans (b.mono H2.out.size))
  clear b
  clear FA
  cases f with
  | false =>
    go_wp2_with fail
    refine (HA.out _).mono ?_
    rintro e w9 ⟨rfl, b9⟩
    have H9 := Lib.hid (H3.out.trans (b9.mono H3.out.size))
    clear b9
    go_wp2_with fail
    go_ret
    exact ⟨rfl, H9.out⟩
  | true =>
    go_wp2_with fail
    refine (ZA.out _ H3.out).mono ?_
    rintro e w4 ⟨rfl, rfl⟩
    clear ZA
    by_cases hz : 2000 < z
    · have g1 : decide (2000 < z) = true := decide_eq_true hz
      have g2 : decide (z > 2000) = true := decide_eq_true hz
      clear HT
      go_wp2_with fail
      refine (HA.out _).mono ?_
      rintro e w9 ⟨rfl, b9⟩
      have H9 := Lib.hid (H3.out.trans (b9.mono H3.out.size))
      clear b9
      go_wp2_with fail
      go_ret
      exact ⟨rfl, H9.out⟩
    have g1 : decide (2000 < z) = false := decide_eq_false hz
    have g2 : decide (z > 2000) = false := decide_eq_false hz
    have ht := HT.out (by omega)
    have lq := lx.out ht
    have zl60_112_62 : (⟨#[60, 112, 62]⟩ : ByteArray).size = 3 := rfl
    have ggP0 : ¬ 9223372036854775807 < ((⟨#[60, 112, 62]⟩ : ByteArray)).size + (S q).size := by omega
    have yyP0 : ((⟨#[60, 112, 62]⟩ : ByteArray) ++ S q).size = 3 + q.length := by rw [ByteArray.size_append]; omega
    have zl60_47_112_62_10 : (⟨#[60, 47, 112, 62, 10]⟩ : ByteArray).size = 5 := rfl
    have ggP1 : ¬ 9223372036854775807 < ((⟨#[60, 112, 62]⟩ : ByteArray) ++ S q).size + ((⟨#[60, 47, 112, 62, 10]⟩ : ByteArray)).size := by omega
    have yyP1 : ((⟨#[60, 112, 62]⟩ : ByteArray) ++ S q ++ (⟨#[60, 47, 112, 62, 10]⟩ : ByteArray)).size = 3 + q.length + 5 := by rw [ByteArray.size_append]; omega
    have hapP : Hid ((⟨#[60, 112, 62]⟩ : ByteArray) ++ S q ++ (⟨#[60, 47, 112, 62, 10]⟩ : ByteArray) = S (lnT [112] q)) := Lib.hid (by
      rw [show (⟨#[60, 112, 62]⟩ : ByteArray) = S [60, 112, 62] from rfl, show (⟨#[60, 47, 112, 62, 10]⟩ : ByteArray) = S [60, 47, 112, 62, 10] from rfl, S_app, S_app]
      congr 1 <;> simp [lnT])
    have zl60_101_109_62 : (⟨#[60, 101, 109, 62]⟩ : ByteArray).size = 4 := rfl
    have ggE0 : ¬ 9223372036854775807 < ((⟨#[60, 101, 109, 62]⟩ : ByteArray)).size + (S q).size := by omega
    have yyE0 : ((⟨#[60, 101, 109, 62]⟩ : ByteArray) ++ S q).size = 4 + q.length := by rw [ByteArray.size_append]; omega
    have zl60_47_101_109_62 : (⟨#[60, 47, 101, 109, 62]⟩ : ByteArray).size = 5 := rfl
    have ggE1 : ¬ 9223372036854775807 < ((⟨#[60, 101, 109, 62]⟩ : ByteArray) ++ S q).size + ((⟨#[60, 47, 101, 109, 62]⟩ : ByteArray)).size := by omega
    have yyE1 : ((⟨#[60, 101, 109, 62]⟩ : ByteArray) ++ S q ++ (⟨#[60, 47, 101, 109, 62]⟩ : ByteArray)).size = 4 + q.length + 5 := by rw [ByteArray.size_append]; omega
    have hapE : Hid ((⟨#[60, 101, 109, 62]⟩ : ByteArray) ++ S q ++ (⟨#[60, 47, 101, 109, 62]⟩ : ByteArray) = S ([60, 101, 109, 62] ++ (q ++ [60, 47, 101, 109, 62]))) := Lib.hid (by
      rw [show (⟨#[60, 101, 109, 62]⟩ : ByteArray) = S [60, 101, 109, 62] from rfl, show (⟨#[60, 47, 101, 109, 62]⟩ : ByteArray) = S [60, 47, 101, 109, 62] from rfl, S_app, S_app]
      congr 1 <;> simp)
    have C1' := Lib.hid (fun w' h => C1.out w' h ht)
    have BP' := Lib.hid (fun v w' h => BP.out v w' ht h)
    have BE' := Lib.hid (fun v w' h => BE.out v w' ht h)
    rw [← hapQ.out] at BQ
    rw [← hapL.out] at BL
    rw [← hapP.out] at BP'
    rw [← hapE.out] at BE'
    clear HT C1 BP BE ht HA lx hapQ hapL hapP hapE hz
    generalize S y = sy at *
    generalize S q = sq at *
    go_wp2_with fail
    refine (B1.out _ H3.out).mono ?_
    rintro e w5 ⟨rfl, b⟩
    have H5 := Lib.hid (H3.out.trans (b.mono H3.out.size))
    clear b
    have TQ := Lib.hid (litK 5 (RL.out.below H5.out))
    have A5 := Lib.hid (H5.out.alloc H5.out.size (.cells #[.int .i64 5, .int .i64 0, .string ⟨#[]⟩, .slice none 0 0, .slice none 0 0, .slice al ln cl] 35))
    clear B1 H3 H2
    go_wp2_with fail
    refine (BQ.out _ _ TQ.out).mono ?_
    rintro e w6 ⟨rfl, b⟩
    have H6 := Lib.hid (A5.out.trans (b.mono A5.out.size))
    clear b
    clear TQ BQ H5 A5
    have TI := Lib.hid (litK 7 (RL.out.below H6.out))
    have A6 := Lib.hid (H6.out.alloc H6.out.size (.cells #[.int .i64 7, .int .i64 0, .string ⟨#[]⟩, .slice none 0 0, .slice none 0 0, .slice al ln cl] 35))
    have TL := Lib.hid (litK 6 TI.out)
    have A7 := Lib.hid (A6.out.alloc A6.out.size (.cells #[.int .i64 6, .int .i64 0, .string ⟨#[]⟩, .slice none 0 0, .slice none 0 0, .slice (some ⟨w6.heap.size, 0, none⟩) 1 1] 35))
    have e6 : (w6.alloc (.cells #[.int .i64 7, .int .i64 0, .string ⟨#[]⟩, .slice none 0 0, .slice none 0 0, .slice al ln cl] 35)).heap.size = w6.heap.size + 1 := by simp
    rw [e6] at TL
    clear TI A6 RL H6 e6
    go_wp2_with fail

    refine (BL.out _ _ TL.out).mono ?_
    rintro e w7 ⟨rfl, b⟩
    have H7 := Lib.hid (A7.out.trans (b.mono A7.out.size))
    clear b

    clear TL BL A7
    have TP := Lib.hid (litP (RX.out.below H7.out))
    have A8 := Lib.hid (H7.out.alloc H7.out.size (.cells #[.int .i64 1, .int .i64 0, .string ⟨#[]⟩, .slice none 0 0, .slice ax xn cx, .slice none 0 0] 35))
    clear H7
    go_wp2_with fail

    refine (BP'.out _ _ TP.out).mono ?_
    rintro e w8 ⟨rfl, b⟩
    have H8 := Lib.hid (A8.out.trans (b.mono A8.out.size))
    clear b

    clear TP BP' A8
    have TE := Lib.hid (litE (RX.out.below H8.out))
    have A9 := Lib.hid (H8.out.alloc H8.out.size (.cells #[.int .i64 3, .string ⟨#[]⟩, .slice ax xn cx] 37))
    clear H8 RX
    go_wp2_with fail

    refine (BE'.out _ _ TE.out).mono ?_
    rintro e w9 ⟨rfl, b⟩
    have H9 := Lib.hid (A9.out.trans (b.mono A9.out.size))
    clear b

    clear TE BE' A9
    go_wp2_with fail

    refine (C1'.out _ H9.out).mono ?_
    rintro e w10 ⟨rfl, b⟩
    have H10 := Lib.hid (H9.out.trans (b.mono H9.out.size))
    clear b

    go_wp2_with fail

    refine (C1'.out _ H10.out).mono ?_
    rintro e w11 ⟨rfl, b⟩
    have H11 := Lib.hid (H10.out.trans (b.mono H10.out.size))
    clear b

    go_wp2_with fail
    go_ret
    exact ⟨rfl, H11.out⟩
end Go.Proofs.YtpakjdgddomdjaaDoor.Ht
