/-
  CONTRACT of a writer's spans (number).
-/
import Derived.Test.YtldllbmbcnipoaaDoorPkNG
namespace Go.Proofs.YtldllbmbcnipoaaDoor.Nm
open Go.RowKit
open Go.Proofs.YtldllbmbcnipoaaDoor.Tk (S S_of S_list S_size S_toList S_app)
open Go.Proofs.YtldllbmbcnipoaaDoor.Cm (cell_at alloc_new)
open Go.Proofs.YtldllbmbcnipoaaDoor.Sp (Sp Tr totAll totOne totAll_cons totAll_mem totAll_kids drop_cons fitAll fitOne fitAll_at)
open Go.Proofs.YtldllbmbcnipoaaDoor.Bk (Bk Tx)
set_option linter.unusedVariables false

theorem pg_lt {B b : Nat} {t : Tx} {w : World} (h : Pg B b t w) : b < w.heap.size := by
  rcases h with h | h
  · exact h.lt
  · exact h.lt
set_option maxHeartbeats 3200000 in
set_option maxRecDepth 100000 in
theorem wspans_any (m : Nat) : ∀ (l : List Sp) (v : Value) (w0 w : World) (t : Tx) (b : Nat), totAll l ≤ m → m ≤ 100000 → Tab w0 → Tr w0 v l → fitAll 140737488355328 l → Below w0.heap.size w0 w → Pg w0.heap.size b t w → t.length + (spK l).length ≤ 50000000 →
    Calls Tryd.prog 31 #[.pointer (some ⟨b, 0, none⟩), v] w (WrA w0.heap.size b (t ++ spK l) w) := by
  induction m using Nat.strongRecOn with
  | ind m ih =>
    intro l v w0 w t b hm hM hT ht hf hbw hp hN
    obtain ⟨ao, ca, rfl⟩ := ht.len
    have T := Lib.hid ht
    have hlen := ht.short
    have hll := Sp.totAll_len l
    have HFit : Hid (∀ k (hk : k < l.length), fitOne 140737488355328 l[k]) := Lib.hid (fun k hk => fitAll_at hf l[k] (List.getElem_mem hk))
    have HIH : Hid (∀ k (hk : k < l.length) (v' : Value) (w' : World) (q : Tx), Tr w0 v' l[k].kids → Below w0.heap.size w0 w' → Pg w0.heap.size b q w' → q.length + (spK l[k].kids).length ≤ 50000000 →
        Calls Tryd.prog 31 #[.pointer (some ⟨b, 0, none⟩), v'] w' (WrA w0.heap.size b (q ++ spK l[k].kids) w')) := Lib.hid (fun k hk v' w' q t' b' p' n' => by
      have h := totAll_kids (List.getElem_mem hk)
      exact ih (totAll l[k].kids) (Nat.lt_of_lt_of_le h hm) l[k].kids v' w0 w' q b (Nat.le_refl _) (by omega) hT t' (Sp.fitOne_kids (HFit.out k hk)) b' p' n')
    have HSz : Hid (∀ k (hk : k < l.length), l[k].s.length ≤ 100000) := Lib.hid (fun k hk => by
      have h1 := totAll_mem (List.getElem_mem hk)
      rw [Sp.totOne_eq] at h1
      omega)
    have HD0 := Lib.hid (numP_any (l.length : Int) t b w0 w hT hbw hp (by omega) (by omega))
    rw [dgI_nat] at HD0
    have H0 : Hid (t ++ spK l = (t ++ (dgN l.length ++ [59])) ++ spR (l.drop 0)) := Lib.hid (by rw [List.drop_zero]; unfold spK; simp)
    have HNl : Hid ((t ++ spK l).length ≤ 50000000) := Lib.hid (by rw [List.length_append]; omega)
    have HBw := Lib.hid hbw
    have HT := Lib.hid hT
    obtain ⟨X, hX⟩ : ∃ X, t ++ spK l = X := ⟨_, rfl⟩
    rw [hX] at H0 HNl
    rw [hX]
    unfold WrA at HD0 ⊢
    unfold WrA at HIH
    clear ih ht hf hm hX hM hll hbw hp hN hT
    go_enter Tryd.func31, Tryd.ntmps31
    go_wp2_with fail
    refine HD0.out.mono ?_
    rintro e w2 ⟨rfl, b2⟩
    have HG0 : Hid (PgAns w0.heap.size b (t ++ (dgN l.length ++ [59])) w w2) := Lib.hid b2
    clear b2 HD0
    generalize t ++ (dgN l.length ++ [59]) = q0 at *
    go_wp2_with fail
    go_loopw [12] (fun i wr => ∃ (k : Nat) (q : Tx), k ≤ l.length ∧ i = .int .i64 k ∧ Hid (PgAns w0.heap.size b q w wr ∧ X = q ++ spR (l.drop k))) (fun i _ => l.length - (intOf i).toNat)
    case atStart => exact ⟨0, q0, Nat.zero_le _, rfl, Lib.hid ⟨HG0.out, H0.out⟩⟩
    case round =>
      clear H0 HG0
      obtain ⟨k, q, hk, rfl, HN⟩ := hrel
      by_cases hlt : k < l.length
      · have hi1 : (k : Int) < (l.length : Int) := by omega
        have hnx := HN.out.2
        rw [drop_cons l k hlt, spR, sp1_eq] at hnx
        have HBr := Lib.hid (HBw.out.trans HN.out.1.bel)
        obtain ⟨bb, o, ak, ck, rfl, hb, hC⟩ := T.out.at k hlt
        have c0 := (HBr.out.cell (p := ⟨bb, o + k * 3, none⟩) hb).trans hC.kind
        have c1 := (HBr.out.cell (p := ⟨bb, o + k * 3 + 1, none⟩) hb).trans hC.s
        have c2 := (HBr.out.cell (p := ⟨bb, o + k * 3 + 2, none⟩) hb).trans hC.kids
        have hfk := HFit.out k hlt
        have hkr : -9223372036854775808 ≤ l[k].kind ∧ l[k].kind ≤ 9223372036854775807 := by
          have hq := hfk
          revert hq
          generalize l[k] = x
          intro hq
          obtain ⟨q, s, kk⟩ := x
          unfold fitOne at hq
          exact hq.1
        have hs := HSz.out k hlt
        have hxl := congrArg List.length hnx
        have hnl := HNl.out
        simp only [List.length_append, List.length_cons] at hxl
        have HG := Lib.hid HN.out.1
        have hBs := HBr.out.size
        have hB0 := HBw.out.size
        have HNz := Lib.hid (fun (w' : World) (g : PgAns w0.heap.size b q w w') => numP_any l[k].kind q b w0 w' HT.out (HBw.out.trans g.bel) g.pg hkr (by omega))
        have HTs := Lib.hid (fun (w' : World) (g : PgAns w0.heap.size b (q ++ (dgI l[k].kind ++ [59])) w w') => txtP_any l[k].s (q ++ (dgI l[k].kind ++ [59])) b w0 w' HT.out (HBw.out.trans g.bel) g.pg (by omega) (by simp only [List.length_append, List.length_singleton]; omega))
        have HKs := Lib.hid (fun (w' : World) (g : PgAns w0.heap.size b (q ++ (dgI l[k].kind ++ [59]) ++ tx l[k].s) w w') => HIH.out k hlt _ w' (q ++ (dgI l[k].kind ++ [59]) ++ tx l[k].s) hC.tr (HBw.out.trans g.bel) g.pg (by simp only [List.length_append, List.length_singleton]; omega))
        have HXx : Hid (∀ w', PgAns w0.heap.size b (q ++ (dgI l[k].kind ++ [59]) ++ tx l[k].s ++ spK l[k].kids) w w' → (PgAns w0.heap.size b (q ++ (dgI l[k].kind ++ [59]) ++ tx l[k].s ++ spK l[k].kids) w w' ∧ X = (q ++ (dgI l[k].kind ++ [59]) ++ tx l[k].s ++ spK l[k].kids) ++ spR (l.drop (k + 1)))) := Lib.hid (fun w' h => ⟨h, by rw [hnx]; simp⟩)
        unfold WrA at HNz HTs
        clear hnx HN hC HIH T HNl hxl hnl HFit hfk hkr hs HSz
        generalize q ++ (dgI l[k].kind ++ [59]) ++ tx l[k].s ++ spK l[k].kids = q3 at *
        generalize q ++ (dgI l[k].kind ++ [59]) ++ tx l[k].s = q2 at *
        generalize q ++ (dgI l[k].kind ++ [59]) = q1 at *
        generalize l[k].kids.length = kn at *
        generalize l[k].kind = z at *
        generalize S l[k].s = s at *
        go_upto_region 4 with fail
        have hA1 := alloc_new wr (.cells #[.int .i64 z, .string s, .slice ak kn ck] 61)
        have hb1 : Below wr.heap.size wr (wr.alloc (.cells #[.int .i64 z, .string s, .slice ak kn ck] 61)) := (Below.refl wr.heap.size wr).alloc (Nat.le_refl _) _
        have HG1 := Lib.hid (HG.out.more hBs hb1)
        have hbs : b < wr.heap.size := pg_lt HG.out.pg
        have hne : b ≠ wr.heap.size := by omega
        have k0 : (wr.alloc (.cells #[.int .i64 z, .string s, .slice ak kn ck] 61)).cell? ⟨wr.heap.size, 0, none⟩ = some (.int .i64 z) := cell_at hA1 0
        have HA1 := Lib.hid hA1
        clear hA1 hb1 c0 c1 c2 HG hbs
        generalize wr.alloc (.cells #[.int .i64 z, .string s, .slice ak kn ck] 61) = w1 at *
        have HNw := Lib.hid (HNz.out w1 HG1.out)
        clear HNz
        go_wp2_with fail
        refine HNw.out.mono ?_
        rintro e w2 ⟨rfl, b2⟩
        have hA2 := b2.keeps hne (by decide) HA1.out
        have HG2 := Lib.hid (HG1.out.trans b2)
        have HTw := Lib.hid (HTs.out w2 HG2.out)
        have k1 : w2.cell? ⟨wr.heap.size, 1, none⟩ = some (.string s) := cell_at hA2 1
        have HA2 := Lib.hid hA2
        clear b2 hA2 k0 HA1 HG1 HNw HTs
        go_wp2_with fail
        refine HTw.out.mono ?_
        rintro e w3 ⟨rfl, b3⟩
        have hA3 := b3.keeps hne (by decide) HA2.out
        have HG3 := Lib.hid (HG2.out.trans b3)
        have HKw := Lib.hid (HKs.out w3 HG3.out)
        have k2 : w3.cell? ⟨wr.heap.size, 2, none⟩ = some (.slice ak kn ck) := cell_at hA3 2
        clear b3 hA3 k1 HA2 HG2 HTw HKs
        go_wp2_with fail
        refine HKw.out.mono ?_
        rintro e w4 ⟨rfl, b4⟩
        have HR := Lib.hid (HXx.out w4 (HG3.out.trans b4))
        clear b4 HG3 HKw HXx k2
        go_wp2_with fail
        go_roundw
        case rel => exact ⟨k + 1, q3, by omega, by go_num, HR⟩
        case measure => simp [intOf] <;> omega
      · obtain rfl : k = l.length := by omega
        have hi1 : ¬ (l.length : Int) < (l.length : Int) := by omega
        have hnx := HN.out.2
        rw [List.drop_length] at hnx
        have HR : Hid (PgAns w0.heap.size b X w wr) := Lib.hid (by rw [hnx, spR, List.append_nil]; exact HN.out.1)
        clear hnx HN hlt
        go_wp2_with fail
        go_end0
        exact ⟨rfl, HR.out⟩
end Go.Proofs.YtldllbmbcnipoaaDoor.Nm
