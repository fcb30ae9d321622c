/-
  Several texts in one:
  CONTRACTS of the document's text and spans (emendationref15).
  CONTRACTS of strconv.Itoa (where its table lies as it was laid), and of a writer's number and text (number).
-/
import Derived.Test.YtldllbmbcnipoaaGreatDoorNmDig
import Derived.Test.YtldllbmbcnipoaaGreatDoorPkTC
import Derived.Test.YtldllbmbcnipoaaGreatDoorNmPut
import Derived.Test.YtldllbmbcnipoaaGreatDoorShelf
namespace Go.Proofs.YtldllbmbcnipoaaGreatDoor.Nm
open Go.RowKit
open Go.Proofs.YtldllbmbcnipoaaGreatDoor.Tk (S S_of S_list S_size S_toList S_app)
open Go.Proofs.YtldllbmbcnipoaaGreatDoor.Sp (Sp Tr totAll totOne totAll_cons totAll_mem totAll_kids drop_cons fitAll fitOne fitAll_at)
open Go.Proofs.YtldllbmbcnipoaaGreatDoor.Bk (Bk Tx)
set_option linter.unusedVariables false

theorem tx_len {s : Tx} (h : s.length ≤ 9223372036854775808) : (tx s).length ≤ s.length + 20 := by
  have := dgN_20 h
  unfold tx
  rw [List.length_append, List.length_cons]
  omega
theorem dgI_nat (n : Nat) : dgI (n : Int) = dgN n := by unfold dgI; rw [if_neg (by omega), Int.natAbs_natCast]
theorem rtext_any (s : Tx) (hs : s.length ≤ 1000000000) (w : World) :
    Calls Tryz.prog 33 #[.string (S s)] w (StrA w (S (tx s))) := by
  have HD := Lib.hid (rdig_any s.length (s.length : Int) w (by omega) (by omega))
  rw [dgI_nat] at HD
  unfold StrA at HD ⊢
  have hl := dgN_20 (n := s.length) (by omega)
  have zs : (S s).size = s.length := S_size _
  have zd : (S (dgN s.length)).size = (dgN s.length).length := S_size _
  have z58 : (⟨#[58]⟩ : ByteArray).size = 1 := rfl
  have gg1 : ¬ 9223372036854775807 < (S (dgN s.length)).size + (⟨#[58]⟩ : ByteArray).size := by omega
  have yy1 : (S (dgN s.length) ++ (⟨#[58]⟩ : ByteArray)).size = (dgN s.length).length + 1 := by rw [ByteArray.size_append]; omega
  have gg2 : ¬ 9223372036854775807 < (S (dgN s.length) ++ (⟨#[58]⟩ : ByteArray)).size + (S s).size := by omega
  have hap : Hid (S (dgN s.length) ++ (⟨#[58]⟩ : ByteArray) ++ S s = S (tx s)) := Lib.hid (by rw [show (⟨#[58]⟩ : ByteArray) = S [58] from rfl, S_app, S_app]; unfold tx; simp)
  generalize dgN s.length = d at *
  generalize tx s = y at *
  go_enter Tryz.func33, Tryz.ntmps33
  go_wp2_with fail
  refine HD.out.mono ?_
  rintro e w2 ⟨rfl, b2⟩
  have HB := Lib.hid b2
  clear b2 HD
  go_wp2_with fail
  go_ret
  exact ⟨ret_str (by rw [hap.out]), HB.out⟩
theorem sp1_eq (x : Sp) : sp1 x = dgI x.kind ++ 59 :: (tx x.s ++ spK x.kids) := by
  obtain ⟨k, s, l⟩ := x
  rw [sp1]
  rfl
mutual
theorem sp1_len {R : Nat} (hR : R ≤ 9223372036854775808) : ∀ x : Sp, fitOne R x → totOne x ≤ 9223372036854775807 → (sp1 x).length ≤ 70 * totOne x
  | .mk k s l, hf, ht => by
    rw [totOne] at ht ⊢
    unfold fitOne at hf
    have h1 := dgI_21 hf.1
    have h2 := tx_len (s := s) (by omega)
    have h3 := Sp.totAll_len l
    have h4 := dgN_20 (n := l.length) (by omega)
    have h5 := spR_len hR l hf.2.2 (by omega)
    rw [sp1]
    simp only [List.length_append, List.length_cons]
    omega
theorem spR_len {R : Nat} (hR : R ≤ 9223372036854775808) : ∀ l : List Sp, fitAll R l → totAll l ≤ 9223372036854775807 → (spR l).length ≤ 70 * totAll l
  | [], _, _ => by simp [spR]
  | x :: r, hf, ht => by
    unfold fitAll at hf
    rw [totAll_cons] at ht ⊢
    have h1 := sp1_len hR x hf.1 (by omega)
    have h2 := spR_len hR r hf.2 (by omega)
    rw [spR, List.length_append]
    omega
end
set_option maxHeartbeats 6400000 in
set_option maxRecDepth 100000 in
theorem rspans_any (m : Nat) : ∀ (l : List Sp) (v : Value) (w : World), totAll l ≤ m → m ≤ 100000 → Tr w v l → fitAll 140737488355328 l →
    Calls Tryz.prog 34 #[v] w (StrA w (S (spK l))) := by
  induction m using Nat.strongRecOn with
  | ind m ih =>
    intro l v w hm hM ht hf
    obtain ⟨ao, ca, rfl⟩ := ht.len
    have HT := Lib.hid ht
    have hlen := ht.short
    have hll := Sp.totAll_len l
    have HFit : Hid (∀ k (hk : k < l.length), fitOne 140737488355328 l[k]) := Lib.hid (fun k hk => fitAll_at hf l[k] (List.getElem_mem hk))
    have HIH : Hid (∀ k (hk : k < l.length) (v' : Value) (w' : World), Tr w' v' l[k].kids → Calls Tryz.prog 34 #[v'] w' (StrA w' (S (spK l[k].kids)))) := Lib.hid (fun k hk v' w' ht' => by
      have h := totAll_kids (List.getElem_mem hk)
      exact ih (totAll l[k].kids) (Nat.lt_of_lt_of_le h hm) l[k].kids v' w' (Nat.le_refl _) (by omega) ht' (Sp.fitOne_kids (HFit.out k hk)))
    have hpl : (spR l).length ≤ 7000000 := Nat.le_trans (spR_len (by omega) l hf (by omega)) (by omega)
    have HSz : Hid (∀ k (hk : k < l.length), l[k].s.length ≤ 100000) := Lib.hid (fun k hk => by
      have h1 := totAll_mem (List.getElem_mem hk)
      rw [Sp.totOne_eq] at h1
      omega)
    have HD0 := Lib.hid (rdig_any l.length (l.length : Int) w (by omega) (by omega))
    rw [dgI_nat] at HD0
    have H0 : Hid (spK l = (dgN l.length ++ [59]) ++ spR (l.drop 0)) := Lib.hid (by rw [List.drop_zero]; unfold spK; simp)
    have hdl := dgN_20 (n := l.length) (by omega)
    have hxl : (spK l).length ≤ 7000020 := by unfold spK; rw [List.length_append, List.length_cons]; omega
    obtain ⟨X, hX⟩ : ∃ X, spK l = X := ⟨_, rfl⟩
    rw [hX] at H0 hxl
    rw [hX]
    have zd : (S (dgN l.length)).size = (dgN l.length).length := S_size _
    have z59 : (⟨#[59]⟩ : ByteArray).size = 1 := rfl
    have gg : ¬ 9223372036854775807 < (S (dgN l.length)).size + (⟨#[59]⟩ : ByteArray).size := by omega
    have hap0 : Hid (S (dgN l.length) ++ (⟨#[59]⟩ : ByteArray) = S (dgN l.length ++ [59])) := Lib.hid (S_app _ _)
    unfold StrA at HD0 HIH ⊢
    clear ih ht hf hm hX hM hpl hll
    go_enter Tryz.func34, Tryz.ntmps34
    go_wp2_with fail
    refine HD0.out.mono ?_
    rintro e w2 ⟨rfl, b2⟩
    have HB0 := Lib.hid b2
    clear b2 HD0
    go_wp2_with fail
    go_loopw [3, 11] (fun s i wr => ∃ (k : Nat) (p : Tx), k ≤ l.length ∧ i = .int .i64 k ∧ s = .string (S p) ∧ Hid (Below w.heap.size w wr) ∧ Hid (X = p ++ spR (l.drop k))) (fun _ i _ => l.length - (intOf i).toNat)
    case atStart => exact ⟨0, dgN l.length ++ [59], Nat.zero_le _, rfl, by rw [hap0.out], HB0, H0⟩
    case round =>
      clear H0 HB0 hap0 gg zd
      obtain ⟨k, p, hk, rfl, rfl, HB, HN⟩ := hrel
      by_cases hlt : k < l.length
      · have hnx := HN.out
        rw [drop_cons l k hlt, spR, sp1_eq] at hnx
        have hi1 : (k : Int) < (l.length : Int) := by omega
        obtain ⟨b, o, ak, ck, rfl, hb, hC⟩ := (HT.out.below HB.out).at k hlt
        have c0 := hC.kind
        have c1 := hC.s
        have c2 := hC.kids
        have hfk := HFit.out k hlt
        have hkr : -9223372036854775808 ≤ l[k].kind ∧ l[k].kind ≤ 9223372036854775807 := by
          have hq := hfk
          revert hq
          generalize l[k] = x
          intro hq
          obtain ⟨q, s, kk⟩ := x
          unfold fitOne at hq
          exact hq.1
        have hs := HSz.out k hlt
        have HTk := Lib.hid hC.tr
        have hall := congrArg List.length hnx
        simp only [List.length_append, List.length_cons] at hall
        have HD := Lib.hid (fun d os => Calls.regrown_of (rdig_any l[k].kind.natAbs l[k].kind (Go.Sort.grow (redrawn wr d) os) (Nat.le_refl _) hkr))
        have HX := Lib.hid (fun d os => Calls.regrown_of (rtext_any l[k].s (by omega) (Go.Sort.grow (redrawn wr d) os)))
        have HK := Lib.hid (fun d os => Calls.regrown_of (HIH.out k hlt _ (Go.Sort.grow (redrawn wr d) os) (HTk.out.below (below_regrown wr d os))))
        have HR : Hid (X = (p ++ dgI l[k].kind ++ [59] ++ tx l[k].s ++ spK l[k].kids) ++ spR (l.drop (k + 1))) := Lib.hid (by rw [hnx]; simp)
        have m0 := fun d os => cell_regrown (w := wr) c0 d os
        have m1 := fun d os => cell_regrown (w := wr) c1 d os
        have m2 := fun d os => cell_regrown (w := wr) c2 d os
        clear hnx HN hC HT HIH HSz HFit hfk hkr HTk c0 c1 c2
        generalize l[k].kids.length = kn at *
        generalize spK l[k].kids = y3 at *
        generalize tx l[k].s = y2 at *
        generalize dgI l[k].kind = y1 at *
        generalize l[k].kind = z at *
        generalize S l[k].s = s at *
        have zp : (S p).size = p.length := S_size _
        have zy1 : (S y1).size = y1.length := S_size _
        have zy2 : (S y2).size = y2.length := S_size _
        have zy3 : (S y3).size = y3.length := S_size _
        have gg0 : ¬ 9223372036854775807 < (S p).size + (S y1).size := by omega
        have yy0 : (S p ++ S y1).size = p.length + y1.length := by rw [ByteArray.size_append]; omega
        have gg1 : ¬ 9223372036854775807 < (S p ++ S y1).size + (⟨#[59]⟩ : ByteArray).size := by omega
        have yy1 : (S p ++ S y1 ++ (⟨#[59]⟩ : ByteArray)).size = p.length + y1.length + 1 := by rw [ByteArray.size_append]; omega
        have gg2 : ¬ 9223372036854775807 < (S p ++ S y1 ++ (⟨#[59]⟩ : ByteArray)).size + (S y2).size := by omega
        have yy2 : (S p ++ S y1 ++ (⟨#[59]⟩ : ByteArray) ++ S y2).size = p.length + y1.length + 1 + y2.length := by rw [ByteArray.size_append]; omega
        have gg3 : ¬ 9223372036854775807 < (S p ++ S y1 ++ (⟨#[59]⟩ : ByteArray) ++ S y2).size + (S y3).size := by omega
        have hap : Hid (S p ++ S y1 ++ (⟨#[59]⟩ : ByteArray) ++ S y2 ++ S y3 = S (p ++ y1 ++ [59] ++ y2 ++ y3)) := Lib.hid (by rw [show (⟨#[59]⟩ : ByteArray) = S [59] from rfl, S_app, S_app, S_app, S_app])
        clear hall
        go_upto_region 5 with fail
        refine wp_region_quiet_below (by kernel_rfl) (by kernel_rfl) ?_
        repeat (go_big_quiet_step (first | (go_at_call 32; exact HD.out _ _) | (go_at_call 33; exact HX.out _ _) | (go_at_call 34; exact HK.out _ _)))
        refine wpQuiet_nil ?_
        intro w5 hw5
        obtain ⟨⟨dq, osq⟩, hw5'⟩ := hw5
        subst hw5'
        have HB2 := Lib.hid (HB.out.trans ((below_regrown wr dq osq).mono HB.out.size))
        go_wp2_with fail
        go_roundw
        case rel => exact ⟨k + 1, p ++ y1 ++ [59] ++ y2 ++ y3, by omega, by go_num, by rw [hap.out], HB2, HR⟩
        case measure => simp [intOf] <;> omega
      · have hi1 : ¬ (k : Int) < (l.length : Int) := by omega
        have HR : Hid (X = p) := Lib.hid (by rw [HN.out, List.drop_eq_nil_of_le (by omega)]; simp [spR])
        clear HN HT HIH HSz HFit
        go_wp2_with fail
        go_ret
        exact ⟨ret_str (by rw [HR.out]), HB.out⟩
end Go.Proofs.YtldllbmbcnipoaaGreatDoor.Nm

namespace Go.Proofs.YtldllbmbcnipoaaGreatDoor.Nm
open Go.RowKit
open Go.Proofs.YtldllbmbcnipoaaGreatDoor.Tk (S S_of S_list S_size S_toList S_app)
open Go.Proofs.YtldllbmbcnipoaaGreatDoor.Bk (Bk Tx)
set_option linter.unusedVariables false

theorem dec_dgN (n : Nat) : Lib.decDigits n = dgN n := by
  induction n using Nat.strongRecOn with
  | ind n ih =>
    by_cases h : n < 10
    · rw [Lib.decDigits, dif_pos h, dgN_small h]; rfl
    · rw [Lib.decDigits, dif_neg h, dgN_big h, ih (n / 10) (by omega)]; rfl
theorem itoa_dgI (n : Int) : Lib.itoa n = dgI n := by
  unfold Lib.itoa dgI
  split
  · rw [dec_dgN]
  · rw [dec_dgN, show n.toNat = n.natAbs by omega]
theorem itoaP_any (n : Int) (hn : -9223372036854775808 ≤ n ∧ n ≤ 9223372036854775807) (w : World) (hT : Tab w) :
    Calls Tryz.prog 53 #[.int .i64 n] w (StrA w (S (dgI n))) := by
  refine (Tryz.strconv_Itoa n hn.1 hn.2 w hT).mono ?_
  rintro e w' ⟨rfl, k, os, rfl⟩
  refine ⟨?_, Lib.below_grow w.heap.size w (Nat.le_refl _) k os⟩
  rw [itoa_dgI]
  rfl
/-- A call that writes, and answers nothing. -/
def WrA (B b : Nat) (t : Tx) (w : World) (e : Ending) (w' : World) : Prop := e = .returned (.tuple #[]) ∧ PgAns B b t w w'
theorem byte59 (B b : Nat) (t : Tx) (w : World) (h : Pg B b t w) (hlen : t.length + 1 ≤ 140737488355328) (hBw : B ≤ w.heap.size) :
    Calls Tryz.prog 54 #[.pointer (some ⟨b, 0, none⟩), .int .u8 59] w fun e w' => e = .returned .nilIface ∧ PgAns B b (t ++ [59]) w w' := byteP_any B b t 59 w h hlen hBw
theorem byte58 (B b : Nat) (t : Tx) (w : World) (h : Pg B b t w) (hlen : t.length + 1 ≤ 140737488355328) (hBw : B ≤ w.heap.size) :
    Calls Tryz.prog 54 #[.pointer (some ⟨b, 0, none⟩), .int .u8 58] w fun e w' => e = .returned .nilIface ∧ PgAns B b (t ++ [58]) w w' := byteP_any B b t 58 w h hlen hBw
set_option maxHeartbeats 1000000 in
theorem numP_any (n : Int) (t : Tx) (b : Nat) (w0 w : World) (hT : Tab w0) (hw : Below w0.heap.size w0 w) (h : Pg w0.heap.size b t w) (hn : -9223372036854775808 ≤ n ∧ n ≤ 9223372036854775807) (hlen : t.length ≤ 100000000) :
    Calls Tryz.prog 35 #[.pointer (some ⟨b, 0, none⟩), .int .i64 n] w (WrA w0.heap.size b (t ++ (dgI n ++ [59])) w) := by
  have HI := Lib.hid (fun w' (h : Below w.heap.size w w') => itoaP_any n hn w' (hT.below (hw.trans (h.mono hw.size))))
  have hl := dgI_21 hn
  have HG := Lib.hid (PgAns.refl h)
  have hB := hw.size
  have HW := Lib.hid (fun w' (g : PgAns w0.heap.size b t w w') => strP_any w0.heap.size b t (S (dgI n)) w' g.pg (by rw [S_size]; omega) (g.size hB))
  have HY := Lib.hid (fun w' (g : PgAns w0.heap.size b (t ++ dgI n) w w') => byte59 w0.heap.size b (t ++ dgI n) w' g.pg (by rw [List.length_append]; omega) (g.size hB))
  simp only [S_list] at HW
  unfold StrA at HI
  unfold WrA
  rw [← List.append_assoc]
  clear hT hw h hn hlen hl
  generalize S (dgI n) = sd at *
  generalize dgI n = d at *
  go_enter Tryz.func35, Tryz.ntmps35
  go_upto_region 0 with fail
  go_region_with (first
    | (go_at_call 53
       refine (HI.out _ (by first | exact Below.refl _ _ | exact (Below.refl _ _).drew)).mono ?_
       rintro e w1 ⟨rfl, b1⟩)
    | (go_at_call 52
       refine (HW.out _ (HG.out.more hB (by first | exact b1 | exact (Below.refl _ _).drew.trans b1))).mono ?_
       rintro e w2 ⟨rfl, b2⟩))
  all_goals (
  have hb1 : Below w.heap.size w w1 := by first | exact b1 | exact (Below.refl _ _).drew.trans b1
  have HG2 := Lib.hid ((HG.out.more hB hb1).trans b2)
  have HY2 := Lib.hid (HY.out w2 HG2.out)
  clear b2 b1 hb1 HI HW HY HG
  go_wp2_with fail
  refine HY2.out.mono ?_
  rintro e w3 ⟨rfl, b3⟩
  have HR := Lib.hid (HG2.out.trans b3)
  clear b3 HY2 HG2
  go_wp2_with fail
  go_end0
  exact ⟨rfl, HR.out⟩)
set_option maxHeartbeats 1000000 in
theorem txtP_any (s t : Tx) (b : Nat) (w0 w : World) (hT : Tab w0) (hw : Below w0.heap.size w0 w) (h : Pg w0.heap.size b t w) (hs : s.length ≤ 100000000) (hlen : t.length ≤ 100000000) :
    Calls Tryz.prog 36 #[.pointer (some ⟨b, 0, none⟩), .string (S s)] w (WrA w0.heap.size b (t ++ tx s) w) := by
  have HI := Lib.hid (fun w' (h : Below w.heap.size w w') => itoaP_any (s.length : Int) (by omega) w' (hT.below (hw.trans (h.mono hw.size))))
  simp only [dgI_nat] at HI
  have hl := dgN_20 (n := s.length) (by omega)
  have HG := Lib.hid (PgAns.refl h)
  have hB := hw.size
  have HW := Lib.hid (fun w' (g : PgAns w0.heap.size b t w w') => strP_any w0.heap.size b t (S (dgN s.length)) w' g.pg (by rw [S_size]; omega) (g.size hB))
  have HY := Lib.hid (fun w' (g : PgAns w0.heap.size b (t ++ dgN s.length) w w') => byte58 w0.heap.size b (t ++ dgN s.length) w' g.pg (by rw [List.length_append]; omega) (g.size hB))
  have HS := Lib.hid (fun w' (g : PgAns w0.heap.size b (t ++ dgN s.length ++ [58]) w w') => strP_any w0.heap.size b (t ++ dgN s.length ++ [58]) (S s) w' g.pg (by rw [S_size, List.length_append, List.length_append, List.length_singleton]; omega) (g.size hB))
  have zs : (S s).size = s.length := S_size _
  simp only [S_list] at HW HS
  have et : t ++ tx s = t ++ dgN s.length ++ [58] ++ s := by unfold tx; simp
  unfold StrA at HI
  unfold WrA
  rw [et]
  clear hT hw h hlen hl et
  generalize S (dgN s.length) = sd at *
  generalize dgN s.length = d at *
  generalize S s = ss at *
  generalize s.length = n at *
  go_enter Tryz.func36, Tryz.ntmps36
  go_upto_region 0 with fail
  go_region_with (first
    | (go_at_call 53
       refine (HI.out _ (by first | exact Below.refl _ _ | exact (Below.refl _ _).drew)).mono ?_
       rintro e w1 ⟨rfl, b1⟩)
    | (go_at_call 52
       refine (HW.out _ (HG.out.more hB (by first | exact b1 | exact (Below.refl _ _).drew.trans b1))).mono ?_
       rintro e w2 ⟨rfl, b2⟩))
  all_goals (
  have hb1 : Below w.heap.size w w1 := by first | exact b1 | exact (Below.refl _ _).drew.trans b1
  have HG2 := Lib.hid ((HG.out.more hB hb1).trans b2)
  have HY2 := Lib.hid (HY.out w2 HG2.out)
  clear b2 b1 hb1 HI HW HY HG
  go_wp2_with fail
  refine HY2.out.mono ?_
  rintro e w3 ⟨rfl, b3⟩
  have HG3 := Lib.hid (HG2.out.trans b3)
  have HS3 := Lib.hid (HS.out w3 HG3.out)
  clear b3 HY2 HG2 HS
  go_wp2_with fail
  refine HS3.out.mono ?_
  rintro e w4 ⟨rfl, b4⟩
  have HR := Lib.hid (HG3.out.trans b4)
  clear b4 HS3 HG3
  go_wp2_with fail
  go_end0
  exact ⟨rfl, HR.out⟩)
end Go.Proofs.YtldllbmbcnipoaaGreatDoor.Nm
