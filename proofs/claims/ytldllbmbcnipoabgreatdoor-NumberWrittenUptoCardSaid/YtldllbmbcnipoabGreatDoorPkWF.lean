/-
  Several texts in one:
  
  
-/
import Derived.Test.YtldllbmbcnipoabGreatDoorPkWE
import Derived.Test.YtldllbmbcnipoabGreatDoorShelf
import Derived.Test.YtldllbmbcnipoabGreatDoorPkWC
namespace Go.Proofs.YtldllbmbcnipoabGreatDoor.Nm
open Go.RowKit
open Go.Proofs.YtldllbmbcnipoabGreatDoor.Tk (S S_of S_list S_size S_toList S_app)
open Go.Proofs.YtldllbmbcnipoabGreatDoor.Bk (Bk Tx)
set_option linter.unusedVariables false
theorem dec_dgN (n : Nat) : Lib.decDigits n = dgN n := by
  induction n using Nat.strongRecOn with
  | ind n ih =>
    by_cases h : n < 10
    · rw [Lib.decDigits, dif_pos h, dgN_small h]; rfl
    · rw [Lib.decDigits, dif_neg h, dgN_big h, ih (n / 10) (by omega)]; rfl
theorem itoa_dgI (n : Int) : Lib.itoa n = dgI n := by
  unfold Lib.itoa dgI
  split
  · rw [dec_dgN]
  · rw [dec_dgN, show n.toNat = n.natAbs by omega]
theorem itoaP_any (n : Int) (hn : -9223372036854775808 ≤ n ∧ n ≤ 9223372036854775807) (w : World) (hT : Tab w) :
    Calls Tryz.prog 40 #[.int .i64 n] w (StrA w (S (dgI n))) := by
  refine (Tryz.strconv_Itoa n hn.1 hn.2 w hT).mono ?_
  rintro e w' ⟨rfl, k, os, rfl⟩
  refine ⟨?_, Lib.below_grow w.heap.size w (Nat.le_refl _) k os⟩
  rw [itoa_dgI]
  rfl
def WrA (B b : Nat) (t : Tx) (w : World) (e : Ending) (w' : World) : Prop := e = .returned (.tuple #[]) ∧ PgAns B b t w w'
theorem byte59 (B b : Nat) (t : Tx) (w : World) (h : Pg B b t w) (hlen : t.length + 1 ≤ 140737488355328) (hBw : B ≤ w.heap.size) :
    Calls Tryz.prog 41 #[.pointer (some ⟨b, 0, none⟩), .int .u8 59] w fun e w' => e = .returned .nilIface ∧ PgAns B b (t ++ [59]) w w' := byteP_any B b t 59 w h hlen hBw
theorem byte58 (B b : Nat) (t : Tx) (w : World) (h : Pg B b t w) (hlen : t.length + 1 ≤ 140737488355328) (hBw : B ≤ w.heap.size) :
    Calls Tryz.prog 41 #[.pointer (some ⟨b, 0, none⟩), .int .u8 58] w fun e w' => e = .returned .nilIface ∧ PgAns B b (t ++ [58]) w w' := byteP_any B b t 58 w h hlen hBw
set_option maxHeartbeats 1000000 in
theorem numP_any (n : Int) (t : Tx) (b : Nat) (w0 w : World) (hT : Tab w0) (hw : Below w0.heap.size w0 w) (h : Pg w0.heap.size b t w) (hn : -9223372036854775808 ≤ n ∧ n ≤ 9223372036854775807) (hlen : t.length ≤ 100000000) :
    Calls Tryz.prog 22 #[.pointer (some ⟨b, 0, none⟩), .int .i64 n] w (WrA w0.heap.size b (t ++ (dgI n ++ [59])) w) := by
  have HI := Lib.hid (fun w' (h : Below w.heap.size w w') => itoaP_any n hn w' (hT.below (hw.trans (h.mono hw.size))))
  have hl := dgI_21 hn
  have HG := Lib.hid (PgAns.refl h)
  have hB := hw.size
  have HW := Lib.hid (fun w' (g : PgAns w0.heap.size b t w w') => strP_any w0.heap.size b t (S (dgI n)) w' g.pg (by rw [S_size]; omega) (g.size hB))
  have HY := Lib.hid (fun w' (g : PgAns w0.heap.size b (t ++ dgI n) w w') => byte59 w0.heap.size b (t ++ dgI n) w' g.pg (by rw [List.length_append]; omega) (g.size hB))
  simp only [S_list] at HW
  unfold StrA at HI
  unfold WrA
  rw [← List.append_assoc]
  clear hT hw h hn hlen hl
  generalize S (dgI n) = sd at *
  generalize dgI n = d at *
  go_enter Tryz.func22, Tryz.ntmps22
  go_upto_region 0 with fail
  go_region_with (first
    | (go_at_call 40
       refine (HI.out _ (by first | exact Below.refl _ _ | exact (Below.refl _ _).drew)).mono ?_
       rintro e w1 ⟨rfl, b1⟩)
    | (go_at_call 39
       refine (HW.out _ (HG.out.more hB (by first | exact b1 | exact (Below.refl _ _).drew.trans b1))).mono ?_
       rintro e w2 ⟨rfl, b2⟩))
  all_goals (
  have hb1 : Below w.heap.size w w1 := by first | exact b1 | exact (Below.refl _ _).drew.trans b1
  have HG2 := Lib.hid ((HG.out.more hB hb1).trans b2)
  have HY2 := Lib.hid (HY.out w2 HG2.out)
  clear b2 b1 hb1 HI HW HY HG
  go_wp2_with fail
  refine HY2.out.mono ?_
  rintro e w3 ⟨rfl, b3⟩
  have HR := Lib.hid (HG2.out.trans b3)
  clear b3 HY2 HG2
  go_wp2_with fail
  go_end0
  exact ⟨rfl, HR.out⟩)
set_option maxHeartbeats 1000000 in
theorem txtP_any (s t : Tx) (b : Nat) (w0 w : World) (hT : Tab w0) (hw : Below w0.heap.size w0 w) (h : Pg w0.heap.size b t w) (hs : s.length ≤ 100000000) (hlen : t.length ≤ 100000000) :
    Calls Tryz.prog 23 #[.pointer (some ⟨b, 0, none⟩), .string (S s)] w (WrA w0.heap.size b (t ++ tx s) w) := by
  have HI := Lib.hid (fun w' (h : Below w.heap.size w w') => itoaP_any (s.length : Int) (by omega) w' (hT.below (hw.trans (h.mono hw.size))))
  simp only [dgI_nat] at HI
  have hl := dgN_20 (n := s.length) (by omega)
  have HG := Lib.hid (PgAns.refl h)
  have hB := hw.size
  have HW := Lib.hid (fun w' (g : PgAns w0.heap.size b t w w') => strP_any w0.heap.size b t (S (dgN s.length)) w' g.pg (by rw [S_size]; omega) (g.size hB))
  have HY := Lib.hid (fun w' (g : PgAns w0.heap.size b (t ++ dgN s.length) w w') => byte58 w0.heap.size b (t ++ dgN s.length) w' g.pg (by rw [List.length_append]; omega) (g.size hB))
  have HS := Lib.hid (fun w' (g : PgAns w0.heap.size b (t ++ dgN s.length ++ [58]) w w') => strP_any w0.heap.size b (t ++ dgN s.length ++ [58]) (S s) w' g.pg (by rw [S_size, List.length_append, List.length_append, List.length_singleton]; omega) (g.size hB))
  have zs : (S s).size = s.length := S_size _
  simp only [S_list] at HW HS
  have et : t ++ tx s = t ++ dgN s.length ++ [58] ++ s := by unfold tx; simp
  unfold StrA at HI
  unfold WrA
  rw [et]
  clear hT hw h hlen hl et
  generalize S (dgN s.length) = sd at *
  generalize dgN s.length = d at *
  generalize S s = ss at *
  generalize s.length = n at *
  go_enter Tryz.func23, Tryz.ntmps23
  go_upto_region 0 with fail
  go_region_with (first
    | (go_at_call 40
       refine (HI.out _ (by first | exact Below.refl _ _ | exact (Below.refl _ _).drew)).mono ?_
       rintro e w1 ⟨rfl, b1⟩)
    | (go_at_call 39
       refine (HW.out _ (HG.out.more hB (by first | exact b1 | exact (Below.refl _ _).drew.trans b1))).mono ?_
       rintro e w2 ⟨rfl, b2⟩))
  all_goals (
  have hb1 : Below w.heap.size w w1 := by first | exact b1 | exact (Below.refl _ _).drew.trans b1
  have HG2 := Lib.hid ((HG.out.more hB hb1).trans b2)
  have HY2 := Lib.hid (HY.out w2 HG2.out)
  clear b2 b1 hb1 HI HW HY HG
  go_wp2_with fail
  refine HY2.out.mono ?_
  rintro e w3 ⟨rfl, b3⟩
  have HG3 := Lib.hid (HG2.out.trans b3)
  have HS3 := Lib.hid (HS.out w3 HG3.out)
  clear b3 HY2 HG2 HS
  go_wp2_with fail
  refine HS3.out.mono ?_
  rintro e w4 ⟨rfl, b4⟩
  have HR := Lib.hid (HG3.out.trans b4)
  clear b4 HS3 HG3
  go_wp2_with fail
  go_end0
  exact ⟨rfl, HR.out⟩)
end Go.Proofs.YtldllbmbcnipoabGreatDoor.Nm

namespace Go.Proofs.YtldllbmbcnipoabGreatDoor.Nm
open Go.RowKit
open Go.Proofs.YtldllbmbcnipoabGreatDoor.Tk (S S_of S_list S_size S_toList S_app)
open Go.Proofs.YtldllbmbcnipoabGreatDoor.Cm (cell_at alloc_new)
open Go.Proofs.YtldllbmbcnipoabGreatDoor.Sp (Sp Tr totAll totOne totAll_cons totAll_mem totAll_kids drop_cons fitAll fitOne fitAll_at)
open Go.Proofs.YtldllbmbcnipoabGreatDoor.Bk (Bk Tx)
set_option linter.unusedVariables false
theorem pg_lt {B b : Nat} {t : Tx} {w : World} (h : Pg B b t w) : b < w.heap.size := by
  rcases h with h | h
  · exact h.lt
  · exact h.lt
set_option maxHeartbeats 3200000 in
set_option maxRecDepth 100000 in
theorem wspans_any (m : Nat) : ∀ (l : List Sp) (v : Value) (w0 w : World) (t : Tx) (b : Nat), totAll l ≤ m → m ≤ 100000 → Tab w0 → Tr w0 v l → fitAll 140737488355328 l → Below w0.heap.size w0 w → Pg w0.heap.size b t w → t.length + (spK l).length ≤ 50000000 →
    Calls Tryz.prog 24 #[.pointer (some ⟨b, 0, none⟩), v] w (WrA w0.heap.size b (t ++ spK l) w) := by
  induction m using Nat.strongRecOn with
  | ind m ih =>
    intro l v w0 w t b hm hM hT ht hf hbw hp hN
    obtain ⟨ao, ca, rfl⟩ := ht.len
    have T := Lib.hid ht
    have hlen := ht.short
    have hll := Sp.totAll_len l
    have HFit : Hid (∀ k (hk : k < l.length), fitOne 140737488355328 l[k]) := Lib.hid (fun k hk => fitAll_at hf l[k] (List.getElem_mem hk))
    have HIH : Hid (∀ k (hk : k < l.length) (v' : Value) (w' : World) (q : Tx), Tr w0 v' l[k].kids → Below w0.heap.size w0 w' → Pg w0.heap.size b q w' → q.length + (spK l[k].kids).length ≤ 50000000 →
        Calls Tryz.prog 24 #[.pointer (some ⟨b, 0, none⟩), v'] w' (WrA w0.heap.size b (q ++ spK l[k].kids) w')) := Lib.hid (fun k hk v' w' q t' b' p' n' => by
      have h := totAll_kids (List.getElem_mem hk)
      exact ih (totAll l[k].kids) (Nat.lt_of_lt_of_le h hm) l[k].kids v' w0 w' q b (Nat.le_refl _) (by omega) hT t' (Sp.fitOne_kids (HFit.out k hk)) b' p' n')
    have HSz : Hid (∀ k (hk : k < l.length), l[k].s.length ≤ 100000) := Lib.hid (fun k hk => by
      have h1 := totAll_mem (List.getElem_mem hk)
      rw [Sp.totOne_eq] at h1
      omega)
    have HD0 := Lib.hid (numP_any (l.length : Int) t b w0 w hT hbw hp (by omega) (by omega))
    rw [dgI_nat] at HD0
    have H0 : Hid (t ++ spK l = (t ++ (dgN l.length ++ [59])) ++ spR (l.drop 0)) := Lib.hid (by rw [List.drop_zero]; unfold spK; simp)
    have HNl : Hid ((t ++ spK l).length ≤ 50000000) := Lib.hid (by rw [List.length_append]; omega)
    have HBw := Lib.hid hbw
    have HT := Lib.hid hT
    obtain ⟨X, hX⟩ : ∃ X, t ++ spK l = X := ⟨_, rfl⟩
    rw [hX] at H0 HNl
    rw [hX]
    unfold WrA at HD0 ⊢
    unfold WrA at HIH
    clear ih ht hf hm hX hM hll hbw hp hN hT
    go_enter Tryz.func24, Tryz.ntmps24
    go_wp2_with fail
    refine HD0.out.mono ?_
    rintro e w2 ⟨rfl, b2⟩
    have HG0 : Hid (PgAns w0.heap.size b (t ++ (dgN l.length ++ [59])) w w2) := Lib.hid b2
    clear b2 HD0
    generalize t ++ (dgN l.length ++ [59]) = q0 at *
    go_wp2_with fail
    go_loopw [12] (fun i wr => ∃ (k : Nat) (q : Tx), k ≤ l.length ∧ i = .int .i64 k ∧ Hid (PgAns w0.heap.size b q w wr ∧ X = q ++ spR (l.drop k))) (fun i _ => l.length - (intOf i).toNat)
    case atStart => exact ⟨0, q0, Nat.zero_le _, rfl, Lib.hid ⟨HG0.out, H0.out⟩⟩
    case round =>
      clear H0 HG0
      obtain ⟨k, q, hk, rfl, HN⟩ := hrel
      by_cases hlt : k < l.length
      · have hi1 : (k : Int) < (l.length : Int) := by omega
        have hnx := HN.out.2
        rw [drop_cons l k hlt, spR, sp1_eq] at hnx
        have HBr := Lib.hid (HBw.out.trans HN.out.1.bel)
        obtain ⟨bb, o, ak, ck, rfl, hb, hC⟩ := T.out.at k hlt
        have c0 := (HBr.out.cell (p := ⟨bb, o + k * 3, none⟩) hb).trans hC.kind
        have c1 := (HBr.out.cell (p := ⟨bb, o + k * 3 + 1, none⟩) hb).trans hC.s
        have c2 := (HBr.out.cell (p := ⟨bb, o + k * 3 + 2, none⟩) hb).trans hC.kids
        have hfk := HFit.out k hlt
        have hkr : -9223372036854775808 ≤ l[k].kind ∧ l[k].kind ≤ 9223372036854775807 := by
          have hq := hfk
          revert hq
          generalize l[k] = x
          intro hq
          obtain ⟨q, s, kk⟩ := x
          unfold fitOne at hq
          exact hq.1
        have hs := HSz.out k hlt
        have hxl := congrArg List.length hnx
        have hnl := HNl.out
        simp only [List.length_append, List.length_cons] at hxl
        have HG := Lib.hid HN.out.1
        have hBs := HBr.out.size
        have hB0 := HBw.out.size
        have HNz := Lib.hid (fun (w' : World) (g : PgAns w0.heap.size b q w w') => numP_any l[k].kind q b w0 w' HT.out (HBw.out.trans g.bel) g.pg hkr (by omega))
        have HTs := Lib.hid (fun (w' : World) (g : PgAns w0.heap.size b (q ++ (dgI l[k].kind ++ [59])) w w') => txtP_any l[k].s (q ++ (dgI l[k].kind ++ [59])) b w0 w' HT.out (HBw.out.trans g.bel) g.pg (by omega) (by simp only [List.length_append, List.length_singleton]; omega))
        have HKs := Lib.hid (fun (w' : World) (g : PgAns w0.heap.size b (q ++ (dgI l[k].kind ++ [59]) ++ tx l[k].s) w w') => HIH.out k hlt _ w' (q ++ (dgI l[k].kind ++ [59]) ++ tx l[k].s) hC.tr (HBw.out.trans g.bel) g.pg (by simp only [List.length_append, List.length_singleton]; omega))
        have HXx : Hid (∀ w', PgAns w0.heap.size b (q ++ (dgI l[k].kind ++ [59]) ++ tx l[k].s ++ spK l[k].kids) w w' → (PgAns w0.heap.size b (q ++ (dgI l[k].kind ++ [59]) ++ tx l[k].s ++ spK l[k].kids) w w' ∧ X = (q ++ (dgI l[k].kind ++ [59]) ++ tx l[k].s ++ spK l[k].kids) ++ spR (l.drop (k + 1)))) := Lib.hid (fun w' h => ⟨h, by rw [hnx]; simp⟩)
        unfold WrA at HNz HTs
        clear hnx HN hC HIH T HNl hxl hnl HFit hfk hkr hs HSz
        generalize q ++ (dgI l[k].kind ++ [59]) ++ tx l[k].s ++ spK l[k].kids = q3 at *
        generalize q ++ (dgI l[k].kind ++ [59]) ++ tx l[k].s = q2 at *
        generalize q ++ (dgI l[k].kind ++ [59]) = q1 at *
        generalize l[k].kids.length = kn at *
        generalize l[k].kind = z at *
        generalize S l[k].s = s at *
        go_upto_region 4 with fail
        have hA1 := alloc_new wr (.cells #[.int .i64 z, .string s, .slice ak kn ck] 81)
        have hb1 : Below wr.heap.size wr (wr.alloc (.cells #[.int .i64 z, .string s, .slice ak kn ck] 81)) := (Below.refl wr.heap.size wr).alloc (Nat.le_refl _) _
        have HG1 := Lib.hid (HG.out.more hBs hb1)
        have hbs : b < wr.heap.size := pg_lt HG.out.pg
        have hne : b ≠ wr.heap.size := by omega
        have k0 : (wr.alloc (.cells #[.int .i64 z, .string s, .slice ak kn ck] 81)).cell? ⟨wr.heap.size, 0, none⟩ = some (.int .i64 z) := cell_at hA1 0
        have HA1 := Lib.hid hA1
        clear hA1 hb1 c0 c1 c2 HG hbs
        generalize wr.alloc (.cells #[.int .i64 z, .string s, .slice ak kn ck] 81) = w1 at *
        have HNw := Lib.hid (HNz.out w1 HG1.out)
        clear HNz
        go_wp2_with fail
        refine HNw.out.mono ?_
        rintro e w2 ⟨rfl, b2⟩
        have hA2 := b2.keeps hne (by decide) HA1.out
        have HG2 := Lib.hid (HG1.out.trans b2)
        have HTw := Lib.hid (HTs.out w2 HG2.out)
        have k1 : w2.cell? ⟨wr.heap.size, 1, none⟩ = some (.string s) := cell_at hA2 1
        have HA2 := Lib.hid hA2
        clear b2 hA2 k0 HA1 HG1 HNw HTs
        go_wp2_with fail
        refine HTw.out.mono ?_
        rintro e w3 ⟨rfl, b3⟩
        have hA3 := b3.keeps hne (by decide) HA2.out
        have HG3 := Lib.hid (HG2.out.trans b3)
        have HKw := Lib.hid (HKs.out w3 HG3.out)
        have k2 : w3.cell? ⟨wr.heap.size, 2, none⟩ = some (.slice ak kn ck) := cell_at hA3 2
        clear b3 hA3 k1 HA2 HG2 HTw HKs
        go_wp2_with fail
        refine HKw.out.mono ?_
        rintro e w4 ⟨rfl, b4⟩
        have HR := Lib.hid (HXx.out w4 (HG3.out.trans b4))
        clear b4 HG3 HKw HXx k2
        go_wp2_with fail
        go_roundw
        case rel => exact ⟨k + 1, q3, by omega, by go_num, HR⟩
        case measure => simp [intOf] <;> omega
      · obtain rfl : k = l.length := by omega
        have hi1 : ¬ (l.length : Int) < (l.length : Int) := by omega
        have hnx := HN.out.2
        rw [List.drop_length] at hnx
        have HR : Hid (PgAns w0.heap.size b X w wr) := Lib.hid (by rw [hnx, spR, List.append_nil]; exact HN.out.1)
        clear hnx HN hlt
        go_wp2_with fail
        go_end0
        exact ⟨rfl, HR.out⟩
end Go.Proofs.YtldllbmbcnipoabGreatDoor.Nm
