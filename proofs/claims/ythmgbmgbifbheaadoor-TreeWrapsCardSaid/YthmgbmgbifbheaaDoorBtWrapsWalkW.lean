/-
  THE WALK of the statement TreeWraps (for blocks of whatever size).
-/
import Derived.Test.YthmgbmgbifbheaaDoorBtProg
import Derived.Test.YthmgbmgbifbheaaDoorBtPlain
namespace Go.Proofs.YthmgbmgbifbheaaDoor.Bt
open Go.RowKit
open Go.Proofs.YthmgbmgbifbheaaDoor.Tk (S S_of S_list S_size S_toList ret_int Rd)
open Go.Proofs.YthmgbmgbifbheaaDoor.Cm (calls_at)
open Go.Proofs.YthmgbmgbifbheaaDoor.Sp (Sp Tr ret_bool OkAns)
open Go.Proofs.YthmgbmgbifbheaaDoor.Bk (Bk)
set_option linter.unusedVariables false

set_option maxHeartbeats 3200000 in
set_option maxRecDepth 100000 in
theorem treeWraps_walkW (w : World) (va : Value) (a : List Bk) (ra : TrB w va a) (fa : fitAll reachBytes a) :
    Calls Tryd.prog 5 #[va] w (OkAns w true) := by
  obtain ⟨aa, ca, rfl⟩ := ra.len
  have HA := Lib.hid (awake10_any told10)
  have FA := Lib.hid (fun w' (h : Below w.heap.size w w') => few10_any a _ w' (ra.below h) fa)
  have S1 := Lib.hid (fun w' (h : Below w.heap.size w w') => rightBP_any a _ w' (fit47 fa) (ra.below h))
  have S2 := Lib.hid (fun w' (h : Below w.heap.size w w') => deepP_any (szAll a) a _ w' (Nat.le_refl _) (ra.below h))
  have S3 := Lib.hid (fun w' (h : Below w.heap.size w w') => countP_any (szAll a) a _ w' (Nat.le_refl _) (ra.below h))
  have Q1 := Lib.hid (fun v w' (h : TrB w' v (qt a)) => rightBP_any (qt a) v w' (qt_fit (fit47 fa)) h)
  have Q2 := Lib.hid (fun v w' (h : TrB w' v (qt a)) => deepP_any (szAll (qt a)) (qt a) v w' (Nat.le_refl _) h)
  have I1 := Lib.hid (fun v w' (h : TrB w' v (lst a)) => rightBP_any (lst a) v w' (lst_fit (fit47 fa)) h)
  have I2 := Lib.hid (fun v w' (h : TrB w' v (lst a)) => deepP_any (szAll (lst a)) (lst a) v w' (Nat.le_refl _) h)
  have I3 := Lib.hid (fun v w' (h : TrB w' v (lst a)) => countP_any (szAll (lst a)) (lst a) v w' (Nat.le_refl _) h)
  have hs0 : S [] = ⟨#[]⟩ := rfl
  have TQ := Lib.hid (fun w' (h : Below w.heap.size w w') => by
    have t1 := litB (k := 5) (lv := 0) (i := []) (nilR w') (by simp) (nilS w') (ra.below h) 32
    rw [hs0] at t1
    exact t1)
  have TI := Lib.hid (fun w' (h : Below w.heap.size w w') => by
    have t1 := litB (k := 7) (lv := 0) (i := []) (nilR w') (by simp) (nilS w') (ra.below h) 32
    have t2 := litB (k := 6) (lv := 0) (i := []) (nilR _) (by simp) (nilS _) t1 32
    rw [World.size_alloc, hs0] at t2
    exact t2)
  have hrq := fun (h : rgW a = true) => qt_rgW h
  have hri := fun (h : rgW a = true) => lst_rgW h
  have hdq := fun (h : dp a ≤ 16) => qt_dp (l := a) (by omega)
  have hdi := fun (h : dp a ≤ 16) => lst_dp (l := a) (by omega)
  have hci := lst_cnt a
  have h16 : rgW a = true → dp a ≤ 16 := fun h => by obtain ⟨_, h1, h2⟩ := rgW_parts h; omega
  have h0 := dp_ge a
  have hqa : [Bk.mk 5 0 [] [] [] a] = qt a := rfl
  have hia : [Bk.mk 6 0 [] [] [] [Bk.mk 7 0 [] [] [] a]] = lst a := rfl
  rw [hqa] at TQ
  rw [hia] at TI
  rw [hci] at I3
  clear ra fa hs0 hqa hia hci
  generalize qt a = lq at *
  generalize lst a = li at *
  generalize rgW a = r1 at *
  generalize dp a = d1 at *
  generalize cnt a = c1 at *
  go_enter Tryd.func5, Tryd.ntmps5
  go_wp2_with fail
  refine (HA.out _).mono ?_
  rintro e w2 ⟨rfl, b2⟩
  have H2 := Lib.hid b2
  clear b2
  go_wp2_with fail
  refine (FA.out _ H2.out).mono ?_
  rintro e w3 ⟨rfl, n3, rfl⟩
  have H3 := Lib.hid (below_drewN H2.out n3)
  clear FA
  generalize w2.drewN n3 = w3 at *
  cases hf : fewB a with
  | false =>
    go_wp2_with fail
    refine (HA.out _).mono ?_
    rintro e w4 ⟨rfl, b4⟩
    have H4 := Lib.hid (H3.out.trans (b4.mono H3.out.size))
    clear b4
    go_wp2_with fail
    go_ret
    exact ⟨rfl, H4.out⟩
  | true =>
    clear hf
    go_wp2_with fail
    refine (S1.out _ H3.out).mono ?_
    rintro e w4 ⟨rfl, b4⟩
    have H4 := Lib.hid (H3.out.trans (b4.mono H3.out.size))
    clear b4 S1
    cases r1 with
    | false =>
      clear hrq hri h16
      go_wp2_with fail
      refine (HA.out _).mono ?_
      rintro e w5 ⟨rfl, b5⟩
      have H5 := Lib.hid (H4.out.trans (b5.mono H4.out.size))
      clear b5
      go_wp2_with fail
      go_ret
      exact ⟨rfl, H5.out⟩
    | true =>
      have hd16 := h16 rfl
      rw [hrq rfl] at Q1
      rw [hri rfl] at I1
      rw [hdq hd16] at Q2
      rw [hdi hd16] at I2
      clear hrq hri h16 hdq hdi
      have hq := TQ.out w4 H4.out
      have bq := H4.out.alloc H4.out.size (.cells #[.int .i64 5, .int .i64 0, .string ⟨#[]⟩, .slice none 0 0, .slice none 0 0, .slice aa a.length ca] 32)
      have hi := TI.out _ bq
      rw [World.size_alloc] at hi
      have bi := (bq.alloc bq.size (.cells #[.int .i64 7, .int .i64 0, .string ⟨#[]⟩, .slice none 0 0, .slice none 0 0, .slice aa a.length ca] 32))
      have bi2 := bi.alloc bi.size (.cells #[.int .i64 6, .int .i64 0, .string ⟨#[]⟩, .slice none 0 0, .slice none 0 0, .slice (some ⟨w4.heap.size + 1, 0, none⟩) 1 1] 32)
      have hq2 := hq.below (((Below.refl _ _).alloc (Nat.le_refl _) (.cells #[.int .i64 7, .int .i64 0, .string ⟨#[]⟩, .slice none 0 0, .slice none 0 0, .slice aa a.length ca] 32)).alloc (by simp) (.cells #[.int .i64 6, .int .i64 0, .string ⟨#[]⟩, .slice none 0 0, .slice none 0 0, .slice (some ⟨w4.heap.size + 1, 0, none⟩) 1 1] 32))
      have UQ := Lib.hid hq2
      have UI := Lib.hid hi
      have HB := Lib.hid bi2
      clear hq hi bq bi bi2 hq2 TQ TI H4
      go_upto_region 5 with fail
      generalize (((w4.alloc (.cells #[.int .i64 5, .int .i64 0, .string ⟨#[]⟩, .slice none 0 0, .slice none 0 0, .slice aa a.length ca] 32)).alloc (.cells #[.int .i64 7, .int .i64 0, .string ⟨#[]⟩, .slice none 0 0, .slice none 0 0, .slice aa a.length ca] 32)).alloc (.cells #[.int .i64 6, .int .i64 0, .string ⟨#[]⟩, .slice none 0 0, .slice none 0 0, .slice (some ⟨w4.heap.size + 1, 0, none⟩) 1 1] 32)) = w5 at *
      go_wp2_with fail
      refine (S2.out _ HB.out).mono ?_
      rintro e w6 ⟨rfl, b6⟩
      have H6 := Lib.hid (HB.out.trans (b6.mono HB.out.size))
      have UQ6 := Lib.hid (UQ.out.below b6)
      have UI6 := Lib.hid (UI.out.below b6)
      clear b6 S2 UQ UI HB
      go_wp2_with fail
      refine (Q1.out _ _ UQ6.out).mono ?_
      rintro e w7 ⟨rfl, b7⟩
      have H7 := Lib.hid (H6.out.trans (b7.mono H6.out.size))
      have UQ7 := Lib.hid (UQ6.out.below b7)
      have UI7 := Lib.hid (UI6.out.below b7)
      clear b7 Q1 UQ6 UI6 H6
      have w2' : IntKind.i64.wrap (d1 + 2) = d1 + 2 := by rw [IntKind.wrap_i64]; omega
      have w1' : IntKind.i64.wrap (d1 + 1) = d1 + 1 := by rw [IntKind.wrap_i64]; omega
      go_wp2_with fail
      refine (I1.out _ _ UI7.out).mono ?_
      rintro e w8 ⟨rfl, b8⟩
      have H8 := Lib.hid (H7.out.trans (b8.mono H7.out.size))
      have UQ8 := Lib.hid (UQ7.out.below b8)
      have UI8 := Lib.hid (UI7.out.below b8)
      clear b8 I1 UQ7 UI7 H7
      go_wp2_with fail
      refine (Q2.out _ _ UQ8.out).mono ?_
      rintro e w9 ⟨rfl, b9⟩
      have H9 := Lib.hid (H8.out.trans (b9.mono H8.out.size))
      have UI9 := Lib.hid (UI8.out.below b9)
      clear b9 Q2 UQ8 UI8 H8
      go_wp2_with fail
      refine (I2.out _ _ UI9.out).mono ?_
      rintro e w10 ⟨rfl, b10⟩
      have H10 := Lib.hid (H9.out.trans (b10.mono H9.out.size))
      have UI10 := Lib.hid (UI9.out.below b10)
      clear b10 I2 UI9 H9
      go_wp2_with fail
      refine (I3.out _ _ UI10.out).mono ?_
      rintro e w11 ⟨rfl, b11⟩
      have H11 := Lib.hid (H10.out.trans (b11.mono H10.out.size))
      clear b11 I3 UI10 H10
      go_wp2_with fail
      refine (S3.out _ H11.out).mono ?_
      rintro e w12 ⟨rfl, b12⟩
      have H12 := Lib.hid (H11.out.trans (b12.mono H11.out.size))
      clear b12 S3 H11
      go_wp2_with fail
      go_ret
      exact ⟨by simp, H12.out⟩

end Go.Proofs.YthmgbmgbifbheaaDoor.Bt
