/-
  CONTRACT of the document's Spans (emendationref14); written by gen_refs.py.
-/
import Derived.Test.YtpakjdgddomdjaaDoorHtRefE
import Derived.Test.YtpakjdgddomdjaaDoorSpHelp
import Derived.Lib.QuietBelow
import Derived.BigQuiet
namespace Go.Proofs.YtpakjdgddomdjaaDoor.Ht
open Go.RowKit
open Go.Proofs.YtpakjdgddomdjaaDoor.Tk (S S_of S_list S_size S_toList S_app eq8 ne8 at_data len_data)
open Go.Proofs.YtpakjdgddomdjaaDoor.Cm (calls_at cell_at alloc_new)
open Go.Proofs.YtpakjdgddomdjaaDoor.Sp (Sp Tr totAll totOne totAll_mem totAll_kids drop_cons)
open Go.Proofs.YtpakjdgddomdjaaDoor.Bk (Tx)
set_option linter.unusedVariables false

def StrA (w : World) (x : ByteArray) (e : Ending) (w' : World) : Prop := e = .returned (.string x) ∧ Below w.heap.size w w'

set_option maxHeartbeats 6400000 in
set_option maxRecDepth 100000 in
theorem rspans_any (m : Nat) : ∀ (l : List Sp) (v : Value) (w : World), totAll l ≤ m → m ≤ 100000000 → Tr w v l →
    Calls Tryd.prog 14 #[v] w (StrA w (S (hsAll l))) := by
  induction m using Nat.strongRecOn with
  | ind m ih =>
    intro l v w hm hM ht
    obtain ⟨ao, ca, rfl⟩ := ht.len
    have HT := Lib.hid ht
    have hlen := ht.short
    have HIH : Hid (∀ k (hk : k < l.length) (v' : Value) (w' : World), Tr w' v' l[k].kids → Calls Tryd.prog 14 #[v'] w' (StrA w' (S (hsAll l[k].kids)))) := Lib.hid (fun k hk v' w' ht' => by
      have h := totAll_kids (List.getElem_mem hk)
      exact ih (totAll l[k].kids) (Nat.lt_of_lt_of_le h hm) l[k].kids v' w' (Nat.le_refl _) (by omega) ht')
    have hpl : (hsAll l).length ≤ 1800000000 := Nat.le_trans (hsAll_len l) (by omega)
    have HSz : Hid (∀ k (hk : k < l.length), l[k].s.length ≤ 100000000) := Lib.hid (fun k hk => by
      have h1 := totAll_mem (List.getElem_mem hk)
      rw [Sp.totOne_eq] at h1
      omega)
    have H0 : Hid (hsAll l = [] ++ hsAll (l.drop 0)) := Lib.hid (by rw [List.drop_zero]; rfl)
    obtain ⟨X, hX⟩ : ∃ X, hsAll l = X := ⟨_, rfl⟩
    rw [hX] at H0 hpl
    rw [hX]
    clear ih ht hm hX hM
    go_enter Tryd.func14, Tryd.ntmps14
    go_wp2_with fail
    go_loopw [3, 8] (fun s i wr => ∃ (k : Nat) (p : Tx), k ≤ l.length ∧ i = .int .i64 k ∧ s = .string (S p) ∧ Hid (Below w.heap.size w wr) ∧ Hid (X = p ++ hsAll (l.drop k))) (fun _ i _ => l.length - (intOf i).toNat)
    case atStart => exact ⟨0, [], Nat.zero_le _, rfl, rfl, Lib.hid (Below.refl _ _), H0⟩
    case round =>
      clear H0
      obtain ⟨k, p, hk, rfl, rfl, HB, HN⟩ := hrel
      by_cases hlt : k < l.length
      · have hnx := HN.out
        rw [drop_cons l k hlt, hsAll_cons, hsOne_eq] at hnx
        have hi1 : (k : Int) < (l.length : Int) := by omega
        obtain ⟨b, o, ak, ck, rfl, hb, hC⟩ := (HT.out.below HB.out).at k hlt
        have c0 := hC.kind
        have c1 := hC.s
        have c2 := hC.kids
        have HTk := Lib.hid hC.tr
        have HI2 := Lib.hid (HIH.out k hlt)
        have hs := HSz.out k hlt
        have hall := congrArg List.length hnx
        simp only [List.length_append] at hall
        have HQ := Lib.hid hnx
        clear hnx HN hC HT HIH HSz
        generalize l[k].kids = kids at *
        generalize l[k].kind = z at *
        generalize l[k].s = s at *
        go_upto_region 6 with fail
        have HC1 := Lib.hid (alloc_new wr (.cells #[.int .i64 z, .string (S s), .slice ak kids.length ck] 37))
        have hb1 : Below wr.heap.size wr (wr.alloc (.cells #[.int .i64 z, .string (S s), .slice ak kids.length ck] 37)) := (Below.refl wr.heap.size wr).alloc (Nat.le_refl _) _
        have HB1 := Lib.hid (HB.out.trans (hb1.mono HB.out.size))
        have HT1 := Lib.hid (HTk.out.below hb1)
        clear hb1 HTk HB c0 c1 c2
        generalize wr.alloc (.cells #[.int .i64 z, .string (S s), .slice ak kids.length ck] 37) = w1 at *
        have k0 : w1.cell? ⟨wr.heap.size, 0, none⟩ = some (.int .i64 z) := cell_at HC1.out 0
        have k1 : w1.cell? ⟨wr.heap.size, 1, none⟩ = some (.string (S s)) := cell_at HC1.out 1
        have k2 : w1.cell? ⟨wr.heap.size, 2, none⟩ = some (.slice ak kids.length ck) := cell_at HC1.out 2
        clear HC1
        have zp : (S p).size = p.length := S_size _
        have zs : (S s).size = s.length := S_size _
        unfold bg mid en at hall HQ
        by_cases q1 : z = 1
        · as_aux_lemma =>
          have f1 : (z == 1) = true := by rw [q1]; rfl
          subst q1
          simp at HQ hall
          have HE := Lib.hid (resc_any (S s) (by rw [zs]; omega) w1)
          rw [S_list] at HE
          obtain ⟨y, hy⟩ : ∃ y, he s = y := ⟨_, rfl⟩
          rw [hy] at HE HQ hall
          have zy : (S y).size = y.length := S_size _
          have gg0 : ¬ 9223372036854775807 < (S p).size + (S y).size := by omega
          have yy0 : (S p ++ S y).size = p.length + y.length := by rw [ByteArray.size_append]; omega
          have hap : Hid (S p ++ S y = S (p ++ (y))) := Lib.hid (by
            rw [S_app])
          have HR : Hid (X = (p ++ (y)) ++ hsAll (l.drop (k + 1))) := Lib.hid (by rw [HQ.out]; simp)
          clear HQ hall hy HI2 HT1
          go_wp2_with fail
          refine HE.out.mono ?_
          rintro e w2 ⟨rfl, rfl⟩
          clear HE
          go_wp2_with fail
          go_roundw
          case rel => exact ⟨k + 1, p ++ (y), by omega, by go_num, by rw [hap.out], HB1, HR⟩
          case measure => simp [intOf] <;> omega
        have f1 : (z == 1) = false := by rw [beq_eq_false_iff_ne]; exact q1
        by_cases q2 : z = 2
        · as_aux_lemma =>
          have f2 : (z == 2) = true := by rw [q2]; rfl
          subst q2
          simp at HQ hall
          have HE := Lib.hid (resc_any (S s) (by rw [zs]; omega) w1)
          rw [S_list] at HE
          obtain ⟨y, hy⟩ : ∃ y, he s = y := ⟨_, rfl⟩
          rw [hy] at HE HQ hall
          have zy : (S y).size = y.length := S_size _
          have zl60_99_111_100_101_62 : (⟨#[60, 99, 111, 100, 101, 62]⟩ : ByteArray).size = 6 := rfl
          have gg0 : ¬ 9223372036854775807 < (S p).size + ((⟨#[60, 99, 111, 100, 101, 62]⟩ : ByteArray)).size := by omega
          have yy0 : (S p ++ (⟨#[60, 99, 111, 100, 101, 62]⟩ : ByteArray)).size = p.length + 6 := by rw [ByteArray.size_append]; omega
          have gg1 : ¬ 9223372036854775807 < (S p ++ (⟨#[60, 99, 111, 100, 101, 62]⟩ : ByteArray)).size + (S y).size := by omega
          have yy1 : (S p ++ (⟨#[60, 99, 111, 100, 101, 62]⟩ : ByteArray) ++ S y).size = p.length + 6 + y.length := by rw [ByteArray.size_append]; omega
          have zl60_47_99_111_100_101_62 : (⟨#[60, 47, 99, 111, 100, 101, 62]⟩ : ByteArray).size = 7 := rfl
          have gg2 : ¬ 9223372036854775807 < (S p ++ (⟨#[60, 99, 111, 100, 101, 62]⟩ : ByteArray) ++ S y).size + ((⟨#[60, 47, 99, 111, 100, 101, 62]⟩ : ByteArray)).size := by omega
          have yy2 : (S p ++ (⟨#[60, 99, 111, 100, 101, 62]⟩ : ByteArray) ++ S y ++ (⟨#[60, 47, 99, 111, 100, 101, 62]⟩ : ByteArray)).size = p.length + 6 + y.length + 7 := by rw [ByteArray.size_append]; omega
          have hap : Hid (S p ++ (⟨#[60, 99, 111, 100, 101, 62]⟩ : ByteArray) ++ S y ++ (⟨#[60, 47, 99, 111, 100, 101, 62]⟩ : ByteArray) = S (p ++ ([60, 99, 111, 100, 101, 62] ++ (y ++ ([60, 47, 99, 111, 100, 101, 62]))))) := Lib.hid (by
            rw [show (⟨#[60, 99, 111, 100, 101, 62]⟩ : ByteArray) = S [60, 99, 111, 100, 101, 62] from rfl, show (⟨#[60, 47, 99, 111, 100, 101, 62]⟩ : ByteArray) = S [60, 47, 99, 111, 100, 101, 62] from rfl, S_app, S_app, S_app]; simp)
          have HR : Hid (X = (p ++ ([60, 99, 111, 100, 101, 62] ++ (y ++ ([60, 47, 99, 111, 100, 101, 62])))) ++ hsAll (l.drop (k + 1))) := Lib.hid (by rw [HQ.out]; simp)
          clear HQ hall hy HI2 HT1
          go_wp2_with fail
          refine HE.out.mono ?_
          rintro e w2 ⟨rfl, rfl⟩
          clear HE
          go_wp2_with fail
          go_roundw
          case rel => exact ⟨k + 1, p ++ ([60, 99, 111, 100, 101, 62] ++ (y ++ ([60, 47, 99, 111, 100, 101, 62]))), by omega, by go_num, by rw [hap.out], HB1, HR⟩
          case measure => simp [intOf] <;> omega
        have f2 : (z == 2) = false := by rw [beq_eq_false_iff_ne]; exact q2
        by_cases q3 : z = 3
        · as_aux_lemma =>
          have f3 : (z == 3) = true := by rw [q3]; rfl
          subst q3
          simp at HQ hall
          have HW := Lib.hid (HI2.out _ w1 HT1.out)
          unfold StrA at HW
          obtain ⟨y, hy⟩ : ∃ y, hsAll kids = y := ⟨_, rfl⟩
          rw [hy] at HW HQ hall
          have zy : (S y).size = y.length := S_size _
          have zl60_101_109_62 : (⟨#[60, 101, 109, 62]⟩ : ByteArray).size = 4 := rfl
          have gg0 : ¬ 9223372036854775807 < (S p).size + ((⟨#[60, 101, 109, 62]⟩ : ByteArray)).size := by omega
          have yy0 : (S p ++ (⟨#[60, 101, 109, 62]⟩ : ByteArray)).size = p.length + 4 := by rw [ByteArray.size_append]; omega
          have gg1 : ¬ 9223372036854775807 < (S p ++ (⟨#[60, 101, 109, 62]⟩ : ByteArray)).size + (S y).size := by omega
          have yy1 : (S p ++ (⟨#[60, 101, 109, 62]⟩ : ByteArray) ++ S y).size = p.length + 4 + y.length := by rw [ByteArray.size_append]; omega
          have zl60_47_101_109_62 : (⟨#[60, 47, 101, 109, 62]⟩ : ByteArray).size = 5 := rfl
          have gg2 : ¬ 9223372036854775807 < (S p ++ (⟨#[60, 101, 109, 62]⟩ : ByteArray) ++ S y).size + ((⟨#[60, 47, 101, 109, 62]⟩ : ByteArray)).size := by omega
          have yy2 : (S p ++ (⟨#[60, 101, 109, 62]⟩ : ByteArray) ++ S y ++ (⟨#[60, 47, 101, 109, 62]⟩ : ByteArray)).size = p.length + 4 + y.length + 5 := by rw [ByteArray.size_append]; omega
          have hap : Hid (S p ++ (⟨#[60, 101, 109, 62]⟩ : ByteArray) ++ S y ++ (⟨#[60, 47, 101, 109, 62]⟩ : ByteArray) = S (p ++ ([60, 101, 109, 62] ++ (y ++ ([60, 47, 101, 109, 62]))))) := Lib.hid (by
            rw [show (⟨#[60, 101, 109, 62]⟩ : ByteArray) = S [60, 101, 109, 62] from rfl, show (⟨#[60, 47, 101, 109, 62]⟩ : ByteArray) = S [60, 47, 101, 109, 62] from rfl, S_app, S_app, S_app]; simp)
          have HR : Hid (X = (p ++ ([60, 101, 109, 62] ++ (y ++ ([60, 47, 101, 109, 62])))) ++ hsAll (l.drop (k + 1))) := Lib.hid (by rw [HQ.out]; simp)
          clear HQ hall hy HI2 HT1
          go_wp2_with fail
          refine HW.out.mono ?_
          rintro e w2 ⟨rfl, b2⟩
          have HB2 := Lib.hid (HB1.out.trans (b2.mono HB1.out.size))
          clear HW b2
          go_wp2_with fail
          go_roundw
          case rel => exact ⟨k + 1, p ++ ([60, 101, 109, 62] ++ (y ++ ([60, 47, 101, 109, 62]))), by omega, by go_num, by rw [hap.out], HB2, HR⟩
          case measure => simp [intOf] <;> omega
        have f3 : (z == 3) = false := by rw [beq_eq_false_iff_ne]; exact q3
        by_cases q4 : z = 4
        · as_aux_lemma =>
          have f4 : (z == 4) = true := by rw [q4]; rfl
          subst q4
          simp at HQ hall
          have HW := Lib.hid (fun d os => Calls.regrown_of (HI2.out _ (Go.Sort.grow (redrawn w1 d) os) (HT1.out.below (below_regrown w1 d os))))
          have HE := Lib.hid (fun d os => Calls.regrown_of ((resc_any (S s) (by rw [zs]; omega) (Go.Sort.grow (redrawn w1 d) os)).mono (fun e w' h => ⟨h.1, by rw [← h.2]; exact Below.refl _ _⟩)))
          rw [S_list] at HE
          obtain ⟨y, hy⟩ : ∃ y, hsAll kids = y := ⟨_, rfl⟩
          rw [hy] at HW HQ hall
          obtain ⟨x, hx⟩ : ∃ x, he s = x := ⟨_, rfl⟩
          rw [hx] at HE HQ hall
          have zy : (S y).size = y.length := S_size _
          have zx : (S x).size = x.length := S_size _
          have zl60_97_32_104_114_101_102_61_34 : (⟨#[60, 97, 32, 104, 114, 101, 102, 61, 34]⟩ : ByteArray).size = 9 := rfl
          have gg0 : ¬ 9223372036854775807 < (S p).size + ((⟨#[60, 97, 32, 104, 114, 101, 102, 61, 34]⟩ : ByteArray)).size := by omega
          have yy0 : (S p ++ (⟨#[60, 97, 32, 104, 114, 101, 102, 61, 34]⟩ : ByteArray)).size = p.length + 9 := by rw [ByteArray.size_append]; omega
          have gg1 : ¬ 9223372036854775807 < (S p ++ (⟨#[60, 97, 32, 104, 114, 101, 102, 61, 34]⟩ : ByteArray)).size + (S x).size := by omega
          have yy1 : (S p ++ (⟨#[60, 97, 32, 104, 114, 101, 102, 61, 34]⟩ : ByteArray) ++ S x).size = p.length + 9 + x.length := by rw [ByteArray.size_append]; omega
          have zl34_62 : (⟨#[34, 62]⟩ : ByteArray).size = 2 := rfl
          have gg2 : ¬ 9223372036854775807 < (S p ++ (⟨#[60, 97, 32, 104, 114, 101, 102, 61, 34]⟩ : ByteArray) ++ S x).size + ((⟨#[34, 62]⟩ : ByteArray)).size := by omega
          have yy2 : (S p ++ (⟨#[60, 97, 32, 104, 114, 101, 102, 61, 34]⟩ : ByteArray) ++ S x ++ (⟨#[34, 62]⟩ : ByteArray)).size = p.length + 9 + x.length + 2 := by rw [ByteArray.size_append]; omega
          have gg3 : ¬ 9223372036854775807 < (S p ++ (⟨#[60, 97, 32, 104, 114, 101, 102, 61, 34]⟩ : ByteArray) ++ S x ++ (⟨#[34, 62]⟩ : ByteArray)).size + (S y).size := by omega
          have yy3 : (S p ++ (⟨#[60, 97, 32, 104, 114, 101, 102, 61, 34]⟩ : ByteArray) ++ S x ++ (⟨#[34, 62]⟩ : ByteArray) ++ S y).size = p.length + 9 + x.length + 2 + y.length := by rw [ByteArray.size_append]; omega
          have zl60_47_97_62 : (⟨#[60, 47, 97, 62]⟩ : ByteArray).size = 4 := rfl
          have gg4 : ¬ 9223372036854775807 < (S p ++ (⟨#[60, 97, 32, 104, 114, 101, 102, 61, 34]⟩ : ByteArray) ++ S x ++ (⟨#[34, 62]⟩ : ByteArray) ++ S y).size + ((⟨#[60, 47, 97, 62]⟩ : ByteArray)).size := by omega
          have yy4 : (S p ++ (⟨#[60, 97, 32, 104, 114, 101, 102, 61, 34]⟩ : ByteArray) ++ S x ++ (⟨#[34, 62]⟩ : ByteArray) ++ S y ++ (⟨#[60, 47, 97, 62]⟩ : ByteArray)).size = p.length + 9 + x.length + 2 + y.length + 4 := by rw [ByteArray.size_append]; omega
          have hap : Hid (S p ++ (⟨#[60, 97, 32, 104, 114, 101, 102, 61, 34]⟩ : ByteArray) ++ S x ++ (⟨#[34, 62]⟩ : ByteArray) ++ S y ++ (⟨#[60, 47, 97, 62]⟩ : ByteArray) = S (p ++ ([60, 97, 32, 104, 114, 101, 102, 61, 34] ++ (x ++ ([34, 62] ++ (y ++ ([60, 47, 97, 62]))))))) := Lib.hid (by
            rw [show (⟨#[60, 97, 32, 104, 114, 101, 102, 61, 34]⟩ : ByteArray) = S [60, 97, 32, 104, 114, 101, 102, 61, 34] from rfl, show (⟨#[34, 62]⟩ : ByteArray) = S [34, 62] from rfl, show (⟨#[60, 47, 97, 62]⟩ : ByteArray) = S [60, 47, 97, 62] from rfl, S_app, S_app, S_app, S_app, S_app]; simp)
          have HR : Hid (X = (p ++ ([60, 97, 32, 104, 114, 101, 102, 61, 34] ++ (x ++ ([34, 62] ++ (y ++ ([60, 47, 97, 62])))))) ++ hsAll (l.drop (k + 1))) := Lib.hid (by rw [HQ.out]; simp)
          clear HQ hall hy HI2 HT1 hx
          go_upto_region 14 with fail
          have m1 := fun d os => cell_regrown (w := w1) k1 d os
          have m2 := fun d os => cell_regrown (w := w1) k2 d os
          refine wp_region_quiet_below (by kernel_rfl) (by kernel_rfl) ?_
          repeat (go_big_quiet_step (first | (go_at_call 16; exact HE.out _ _) | (go_at_call 14; exact HW.out _ _)))
          refine wpQuiet_nil ?_
          intro w5 hw5
          obtain ⟨⟨dq, osq⟩, hw5'⟩ := hw5
          subst hw5'
          have HB2 := Lib.hid (HB1.out.trans ((below_regrown w1 dq osq).mono HB1.out.size))
          go_wp2_with fail
          go_roundw
          case rel => exact ⟨k + 1, p ++ ([60, 97, 32, 104, 114, 101, 102, 61, 34] ++ (x ++ ([34, 62] ++ (y ++ ([60, 47, 97, 62]))))), by omega, by go_num, by rw [hap.out], HB2, HR⟩
          case measure => simp [intOf] <;> omega
        have f4 : (z == 4) = false := by rw [beq_eq_false_iff_ne]; exact q4
        have HR : Hid (X = p ++ hsAll (l.drop (k + 1))) := Lib.hid (by rw [HQ.out, if_neg q2, if_neg q3, if_neg q4, if_neg (by omega), if_neg q3, if_neg q4, if_neg q2, if_neg q3, if_neg q4]; rfl)
        clear HQ hall q1 q2 q3 q4 HI2 HT1
        go_wp2_with fail
        go_roundw
        case rel => exact ⟨k + 1, p, by omega, by go_num, rfl, HB1, HR⟩
        case measure => simp [intOf] <;> omega
      · have hi1 : ¬ (k : Int) < (l.length : Int) := by omega
        have HR : Hid (X = p) := Lib.hid (by rw [HN.out, List.drop_eq_nil_of_le (by omega)]; simp [hsAll])
        clear HN HT HIH HSz
        go_wp2_with fail
        go_ret
        exact ⟨ret_str (by rw [HR.out]), HB.out⟩
end Go.Proofs.YtpakjdgddomdjaaDoor.Ht
