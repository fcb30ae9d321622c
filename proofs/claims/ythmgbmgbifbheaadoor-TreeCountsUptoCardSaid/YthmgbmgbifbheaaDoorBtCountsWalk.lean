/-
  THE WALK of the statement TreeCounts (of what is not too much for a machine).
-/
import Derived.Test.YthmgbmgbifbheaaDoorBt10Told
import Derived.Test.YthmgbmgbifbheaaDoorBtPlain
import Derived.Test.YthmgbmgbifbheaaDoorBtRow
import Derived.Lib.AppendZeros
namespace Go.Proofs.YthmgbmgbifbheaaDoor.Bt
open Go.RowKit
open Go.Proofs.YthmgbmgbifbheaaDoor.Tk (S S_of S_list S_size S_toList ret_int Rd)
open Go.Proofs.YthmgbmgbifbheaaDoor.Cm (calls_at)
open Go.Proofs.YthmgbmgbifbheaaDoor.Sp (Sp Tr ret_bool OkAns)
open Go.Proofs.YthmgbmgbifbheaaDoor.Bk (Bk)
set_option linter.unusedVariables false

set_option maxHeartbeats 3200000 in
set_option maxRecDepth 100000 in
theorem treeCounts_walk (K : Told10) (w : World) (va : Value) (a : List Bk) (ra : TrB w va a) (fa : fitAll reachBytes a) (ta : ttAll a ≤ 2100000) (vb : Value) (b : List Bk) (rb : TrB w vb b) (fb : fitAll reachBytes b) (tb : ttAll b ≤ 2100000) (tab : ttAll a + ttAll b ≤ 2100000) :
    Calls Tryd.prog 7 #[va, vb] w (OkAns w true) := by
  obtain ⟨aa, ca, rfl⟩ := ra.len
  obtain ⟨ab, cb, rfl⟩ := rb.len
  have RA := Lib.hid ra
  have RB := Lib.hid rb
  have HA := Lib.hid (awake10_any K)
  have FA := Lib.hid (fun w' (h : Below w.heap.size w w') => few10_any a _ w' (ra.below h) fa)
  have FB := Lib.hid (fun w' (h : Below w.heap.size w w') => few10_any b _ w' (rb.below h) fb)
  have S1 := Lib.hid (fun w' (h : Below w.heap.size w w') => K.count _ a w' (ra.below h) (fit47 fa) (by omega))
  have S2 := Lib.hid (fun w' (h : Below w.heap.size w w') => K.count _ b w' (rb.below h) (fit47 fb) (by omega))
  have S3 := Lib.hid (fun w' (h : Below w.heap.size w w') => K.deep _ a w' (ra.below h) (fit47 fa) (by omega))
  have S4 := Lib.hid (fun w' (h : Below w.heap.size w w') => K.deep _ b w' (rb.below h) (fit47 fb) (by omega))
  have L1 := Lib.hid (fun v w' (h : TrB w' v (a ++ b)) => K.count v (a ++ b) w' h (fitAll_app (fit47 fa) (fit47 fb)) (by rw [ttAll_app]; omega))
  have L2 := Lib.hid (fun v w' (h : TrB w' v (a ++ b)) => K.deep v (a ++ b) w' h (fitAll_app (fit47 fa) (fit47 fb)) (by rw [ttAll_app]; omega))
  have la : a.length ≤ 2100000 := by have h1 := sz_tt a; have h2 := szAll_len a; omega
  have lb : b.length ≤ 2100000 := by have h1 := sz_tt b; have h2 := szAll_len b; omega
  have lab : a.length + b.length ≤ 2100000 := by have h1 := sz_tt a; have h2 := szAll_len a; have h3 := sz_tt b; have h4 := szAll_len b; omega
  have e1 : cnt (a ++ b) = cnt a + cnt b := by
    rw [cnt_is (by rw [ttAll_app]; omega), cnt_is (by omega), cnt_is (by omega), szAll_app]
    omega
  have e2 := dp_app a b
  have e3 : ((a ++ b).length : Int) ≤ cnt (a ++ b) := by
    rw [cnt_is (by rw [ttAll_app]; omega)]
    have := szAll_len (a ++ b)
    omega
  have e4 : dp (a ++ b) ≤ cnt (a ++ b) := by
    have hz := sz_tt (a ++ b)
    rw [ttAll_app] at hz
    rw [cnt_is (by rw [ttAll_app]; omega)]
    have := dp_sz (szAll (a ++ b)) (a ++ b) 0 (Nat.le_refl _) (by omega)
    unfold dp
    omega
  have e5 : 0 ≤ cnt a ∧ cnt a ≤ 2100000 ∧ 0 ≤ cnt b ∧ cnt b ≤ 2100000 := by
    rw [cnt_is (by omega), cnt_is (by omega)]
    have h1 := sz_tt a
    have h3 := sz_tt b
    omega
  rw [e1] at L1 e3 e4
  rw [e2] at L2 e4
  clear ra rb fa fb ta tb tab K e1 e2
  go_enter Tryd.func7, Tryd.ntmps7
  go_wp2_with fail
  refine (HA.out _).mono ?_
  rintro e w2 ⟨rfl, b2⟩
  have H2 := Lib.hid b2
  clear b2
  go_wp2_with fail
  refine (FA.out _ H2.out).mono ?_
  rintro e w3 ⟨rfl, n3, rfl⟩
  have H3 := Lib.hid (below_drewN H2.out n3)
  clear FA
  generalize w2.drewN n3 = w3 at *
  cases hf : fewB a with
  | false =>
    go_wp2_with fail
    refine (HA.out _).mono ?_
    rintro e w4 ⟨rfl, b4⟩
    have H4 := Lib.hid (H3.out.trans (b4.mono H3.out.size))
    clear b4
    go_wp2_with fail
    go_ret
    exact ⟨rfl, H4.out⟩
  | true =>
    clear hf
    go_wp2_with fail
    refine (FB.out _ H3.out).mono ?_
    rintro e w4 ⟨rfl, n4, rfl⟩
    have H4 := Lib.hid (below_drewN H3.out n4)
    clear FB
    generalize w3.drewN n4 = w4 at *
    cases hg : fewB b with
    | false =>
      go_wp2_with fail
      refine (HA.out _).mono ?_
      rintro e w5 ⟨rfl, b5⟩
      have H5 := Lib.hid (H4.out.trans (b5.mono H4.out.size))
      clear b5
      go_wp2_with fail
      go_ret
      exact ⟨rfl, H5.out⟩
    | true =>
      clear hg HA
      obtain ⟨pa, hpa, rka, kka⟩ := RA.out.pairs
      obtain ⟨pb, hpb, rkb, kkb⟩ := RB.out.pairs
      have lpa : pa.length = a.length := by rw [← hpa, List.length_map]
      have lpb : pb.length = b.length := by rw [← hpb, List.length_map]
      have hba : Below w4.heap.size w4 (w4.alloc (.cells #[] 32)) := (Below.refl _ _).alloc (Nat.le_refl _) _
      have Hba := H4.out.trans (hba.mono H4.out.size)
      have oA : (w4.alloc (.cells #[] 32)).ownsRow w4.heap.size 32 6 (.slice (some ⟨w4.heap.size, 0, none⟩) 0 0) ([] : List (Bk × Value × Value × Value)).length (([] : List (Bk × Value × Value × Value)).flatMap encT) := World.ownsRow_lit w4 #[] 0 (Nat.le_refl _) (Nat.zero_le _) rfl
      obtain ⟨v5, w5, q5, o5, g5⟩ := run_append_bk oA (rka.below Hba) (fun p hp => (kka p hp).below Hba) (by simp) (by simp; omega)
      have hb5 := hba.grown g5 (by simp) (fun k hk => (oA.lt k hk).1)
      have H5 := H4.out.trans (hb5.mono H4.out.size)
      obtain ⟨v6, w6, q6, o6, g6⟩ := run_append_bk o5 (rkb.below H5) (fun p hp => (kkb p hp).below H5) hb5.size (by simp; omega)
      have hb6 := hb5.grown g6 hb5.size (fun k hk => (o5.lt k hk).1)
      have H6 := Lib.hid (H4.out.trans (hb6.mono H4.out.size))
      have hT := TrB.of_own o6 (fun p hp => by
        rw [List.nil_append, List.mem_append] at hp
        rcases hp with hp | hp
        · exact (kka p hp).below H6.out
        · exact (kkb p hp).below H6.out)
      rw [List.nil_append, List.map_append, hpa, hpb] at hT
      obtain ⟨l, hl⟩ : ∃ l, a ++ b = l := ⟨_, rfl⟩
      rw [hl] at hT L1 L2 e3
      obtain ⟨a6, c6, rfl⟩ := hT.len
      have HT := Lib.hid hT
      obtain ⟨a5, c5, rfl⟩ : ∃ ao cap, v5 = .slice ao ([] ++ pa).length cap := by
        rcases o5.2 with ⟨rfl, hz⟩ | ⟨g, cap, _, rfl, _⟩
        · exact ⟨none, 0, by rw [hz]⟩
        · exact ⟨_, _, rfl⟩
      clear hT o6 g6 hb6 o5 g5 hb5 oA hba Hba H5 rka rkb kka kkb hpa hpb lpa lpb hl la lb lab RA RB
      generalize cnt a = na at *
      generalize cnt b = nb at *
      generalize dp a = da at *
      generalize dp b = db at *
      generalize l.length = ln at *
      have wn : IntKind.i64.wrap (na + nb) = na + nb := by rw [IntKind.wrap_i64]; omega
      have x3 : decide ((na + nb) ≥ (ln : Int)) = true := decide_eq_true (by omega)
      have x3' : decide ((ln : Int) ≤ (na + nb)) = true := decide_eq_true (by omega)
      have x4 : decide (max da db ≤ na + nb) = true := decide_eq_true (by omega)
      clear e3 e4 e5
      go_wp2_with (first
        | (at_builtin; refine Lib.wpList_append_run _ rfl (.tmp 19) (.tmp 20) _ _ rfl _ _ rfl rfl _ _ (q5 _) ?_)
        | (at_builtin; refine Lib.wpList_append_run _ rfl (.tmp 21) (.tmp 22) _ _ rfl _ _ rfl rfl _ _ (q6 _) ?_))
      refine (L1.out _ _ HT.out).mono ?_
      rintro e w7 ⟨rfl, b7⟩
      have H7 := Lib.hid (H6.out.trans (b7.mono H6.out.size))
      have T7 := Lib.hid (HT.out.below b7)
      clear b7 H6 HT q5 q6
      go_wp2_with fail
      refine (S1.out _ H7.out).mono ?_
      rintro e w8 ⟨rfl, b8⟩
      have H8 := Lib.hid (H7.out.trans (b8.mono H7.out.size))
      have T8 := Lib.hid (T7.out.below b8)
      clear b8 S1 T7
      go_wp2_with fail
      refine (S2.out _ H8.out).mono ?_
      rintro e w9 ⟨rfl, b9⟩
      have H9 := Lib.hid (H8.out.trans (b9.mono H8.out.size))
      have T9 := Lib.hid (T8.out.below b9)
      clear b9 S2 T8
      go_wp2_with fail
      refine (L2.out _ _ T9.out).mono ?_
      rintro e w10 ⟨rfl, b10⟩
      have H10 := Lib.hid (H9.out.trans (b10.mono H9.out.size))
      have T10 := Lib.hid (T9.out.below b10)
      clear b10 T9
      go_wp2_with fail
      refine (S3.out _ H10.out).mono ?_
      rintro e w11 ⟨rfl, b11⟩
      have H11 := Lib.hid (H10.out.trans (b11.mono H10.out.size))
      have T11 := Lib.hid (T10.out.below b11)
      clear b11 S3 T10
      go_wp2_with fail
      refine (S4.out _ H11.out).mono ?_
      rintro e w12 ⟨rfl, b12⟩
      have H12 := Lib.hid (H11.out.trans (b12.mono H11.out.size))
      have T12 := Lib.hid (T11.out.below b12)
      clear b12 S4 T11
      go_wp2_with fail
      refine (L1.out _ _ T12.out).mono ?_
      rintro e w13 ⟨rfl, b13⟩
      have H13 := Lib.hid (H12.out.trans (b13.mono H12.out.size))
      have T13 := Lib.hid (T12.out.below b13)
      clear b13 T12
      go_wp2_with fail
      refine (L2.out _ _ T13.out).mono ?_
      rintro e w14 ⟨rfl, b14⟩
      have H14 := Lib.hid (H13.out.trans (b14.mono H13.out.size))
      have T14 := Lib.hid (T13.out.below b14)
      clear b14 T13
      go_wp2_with fail
      refine (L1.out _ _ T14.out).mono ?_
      rintro e w15 ⟨rfl, b15⟩
      have H15 := Lib.hid (H14.out.trans (b15.mono H14.out.size))
      clear b15 T14
      go_wp2_with fail
      go_ret
      exact ⟨by simp, H15.out⟩

end Go.Proofs.YthmgbmgbifbheaaDoor.Bt
