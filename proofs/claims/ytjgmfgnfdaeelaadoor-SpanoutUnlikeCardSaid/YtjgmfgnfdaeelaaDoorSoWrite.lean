/-
  CONTRACTS of the document's Write, Checked (emendationref09).
-/
import Derived.Test.YtjgmfgnfdaeelaaDoorSpRt
import Derived.Test.YtjgmfgnfdaeelaaDoorSoEsc
import Derived.Test.YtjgmfgnfdaeelaaDoorSoFence
import Derived.Test.YtjgmfgnfdaeelaaDoorSoPad
import Derived.Lib.QuietBelow
import Derived.BigQuiet
namespace Go.Proofs.YtjgmfgnfdaeelaaDoor.Sp
open Go.RowKit
open Go.Proofs.YtjgmfgnfdaeelaaDoor.Tk (S S_of S_list S_size S_toList S_app ret_int eq8 ne8 at_data len_data)
open Go.Proofs.YtjgmfgnfdaeelaaDoor.Cm (calls_at Keep alloc_new alloc_at cell_at lt_of_at)
set_option linter.unusedVariables false

theorem fence_le (s : List UInt8) : ∀ f n, fence s f n ≤ n + f
  | 0, n => Nat.le_refl _
  | f + 1, n => by
    have := fence_le s f (n + 1)
    show (if hasRun n s.length s = true then fence s f (n + 1) else n) ≤ _
    split <;> omega
theorem ticksOf_le (s : List UInt8) : ticksOf s ≤ s.length + 2 := by
  have := fence_le s (s.length + 1) 1
  unfold ticksOf
  omega
theorem padded_le (s : List UInt8) : (padded s).length ≤ s.length + 2 := by
  unfold padded
  split <;> simp
theorem wr1_eq (x : Sp) : wr1 x = if x.kind = 1 then esc x.s else if x.kind = 2 then List.replicate (ticksOf x.s) 96 ++ (padded x.s ++ List.replicate (ticksOf x.s) 96)
    else if x.kind = 3 then 42 :: (wrs x.kids ++ [42]) else if x.kind = 4 then 91 :: (wrs x.kids ++ (93 :: 40 :: (x.s ++ [41]))) else [] := by
  obtain ⟨k, s, kids⟩ := x
  rw [wr1]
  rfl
theorem wrs_cons (x : Sp) (r : List Sp) : wrs (x :: r) = wr1 x ++ wrs r := by rw [wrs]
mutual
theorem wr1_le : ∀ x : Sp, (wr1 x).length ≤ 6 * totOne x
  | .mk q s l => by
    have h := wrs_le l
    have h1 := esc_le s
    have h2 := ticksOf_le s
    have h3 := padded_le s
    rw [totOne_eq, wr1_eq]
    show (if q = 1 then esc s else if q = 2 then List.replicate (ticksOf s) 96 ++ (padded s ++ List.replicate (ticksOf s) 96)
      else if q = 3 then 42 :: (wrs l ++ [42]) else if q = 4 then 91 :: (wrs l ++ (93 :: 40 :: (s ++ [41]))) else []).length ≤ 6 * (1 + s.length + totAll l)
    split
    · omega
    · split
      · simp only [List.length_append, List.length_replicate]; omega
      · split
        · simp only [List.length_append, List.length_cons, List.length_nil]; omega
        · split
          · simp only [List.length_append, List.length_cons, List.length_nil]; omega
          · simp
theorem wrs_le : ∀ l : List Sp, (wrs l).length ≤ 6 * totAll l
  | [] => by simp [wrs]
  | x :: r => by
    have h1 := wr1_le x
    have h2 := wrs_le r
    rw [wrs_cons, totAll_cons, List.length_append]
    omega
end
def WrAns (w : World) (x : ByteArray) (e : Ending) (w' : World) : Prop := e = .returned (.string x) ∧ Below w.heap.size w w'

set_option maxHeartbeats 6400000 in
set_option maxRecDepth 100000 in
theorem rwrite_any (m : Nat) : ∀ (l : List Sp) (v : Value) (w : World), totAll l ≤ m → m ≤ 100000 → Tr w v l →
    Calls Tryd.prog 20 #[v] w (WrAns w (S (wrs l))) := by
  induction m using Nat.strongRecOn with
  | ind m ih =>
    intro l v w hm hM ht
    obtain ⟨ao, ca, rfl⟩ := ht.len
    have HT := Lib.hid ht
    have hlen := ht.short
    have HIH : Hid (∀ k (hk : k < l.length) (v' : Value) (w' : World), Tr w' v' l[k].kids → Calls Tryd.prog 20 #[v'] w' (WrAns w' (S (wrs l[k].kids)))) := Lib.hid (fun k hk v' w' ht' => by
      have h := totAll_kids (List.getElem_mem hk)
      exact ih (totAll l[k].kids) (Nat.lt_of_lt_of_le h hm) l[k].kids v' w' (Nat.le_refl _) (by omega) ht')
    have hpl : (wrs l).length ≤ 600000 := Nat.le_trans (wrs_le l) (by omega)
    have HSz : Hid (∀ k (hk : k < l.length), l[k].s.length ≤ 100000) := Lib.hid (fun k hk => by
      have h1 := totAll_mem (List.getElem_mem hk)
      rw [totOne_eq] at h1
      omega)
    have H0 : Hid (wrs l = [] ++ wrs (l.drop 0)) := Lib.hid (by rw [List.drop_zero]; rfl)
    obtain ⟨X, hX⟩ : ∃ X, wrs l = X := ⟨_, rfl⟩
    rw [hX] at H0 hpl
    rw [hX]
    clear ih ht hm hX hM
    go_enter Tryd.func20, Tryd.ntmps20
    go_wp2_with fail
    go_loopw [3, 9] (fun s i wr => ∃ (k : Nat) (p : List UInt8), k ≤ l.length ∧ i = .int .i64 k ∧ s = .string (S p) ∧ Hid (Below w.heap.size w wr) ∧ Hid (X = p ++ wrs (l.drop k))) (fun _ i _ => l.length - (intOf i).toNat)
    case atStart => exact ⟨0, [], Nat.zero_le _, rfl, rfl, Lib.hid (Below.refl _ _), H0⟩
    case round =>
      clear H0
      obtain ⟨k, p, hk, rfl, rfl, HB, HN⟩ := hrel
      by_cases hlt : k < l.length
      · have hnx := HN.out
        rw [drop_cons l k hlt, wrs_cons, wr1_eq] at hnx
        have hi1 : (k : Int) < (l.length : Int) := by omega
        obtain ⟨b, o, ak, ck, rfl, hb, hC⟩ := (HT.out.below HB.out).at k hlt
        have c0 := hC.kind
        have c1 := hC.s
        have c2 := hC.kids
        have HTk := Lib.hid hC.tr
        have HI2 := Lib.hid (HIH.out k hlt)
        have hs := HSz.out k hlt
        have hall := congrArg List.length hnx
        simp only [List.length_append] at hall
        have HQ := Lib.hid hnx
        clear hnx HN hC HT HIH HSz
        generalize l[k].kids = kids at *
        generalize l[k].kind = z at *
        generalize l[k].s = s at *
        go_upto_region 6 with fail
        have HC1 := Lib.hid (alloc_new wr (.cells #[.int .i64 z, .string (S s), .slice ak kids.length ck] 35))
        have hb1 : Below wr.heap.size wr (wr.alloc (.cells #[.int .i64 z, .string (S s), .slice ak kids.length ck] 35)) := (Below.refl wr.heap.size wr).alloc (Nat.le_refl _) _
        have HB1 := Lib.hid (HB.out.trans (hb1.mono HB.out.size))
        have HT1 := Lib.hid (HTk.out.below hb1)
        clear hb1 HTk HB c0 c1 c2
        generalize wr.alloc (.cells #[.int .i64 z, .string (S s), .slice ak kids.length ck] 35) = w1 at *
        have k0 : w1.cell? ⟨wr.heap.size, 0, none⟩ = some (.int .i64 z) := cell_at HC1.out 0
        have k1 : w1.cell? ⟨wr.heap.size, 1, none⟩ = some (.string (S s)) := cell_at HC1.out 1
        have k2 : w1.cell? ⟨wr.heap.size, 2, none⟩ = some (.slice ak kids.length ck) := cell_at HC1.out 2
        clear HC1
        have zp : (S p).size = p.length := S_size _
        have zs : (S s).size = s.length := S_size _
        by_cases q1 : z = 1
        · as_aux_lemma =>
          have f1 : (z == 1) = true := by rw [q1]; rfl
          have HR : Hid (X = (p ++ esc s) ++ wrs (l.drop (k + 1))) := Lib.hid (by rw [HQ.out, if_pos q1, List.append_assoc])
          rw [if_pos q1] at hall
          have HE := Lib.hid (resc_any (S s) (by rw [zs]; omega) w1)
          rw [S_list] at HE
          generalize esc s = y at *
          have zy : (S y).size = y.length := S_size _
          have gg : ¬ 9223372036854775807 < (S p).size + (S y).size := by omega
          have hap := Lib.hid (S_app p y)
          clear HQ hall q1 HI2 HT1
          go_wp2_with fail
          refine HE.out.mono ?_
          rintro e w2 ⟨rfl, rfl⟩
          clear HE
          go_wp2_with fail
          go_roundw
          case rel => exact ⟨k + 1, p ++ y, by omega, by go_num, by rw [hap.out], HB1, HR⟩
          case measure => simp [intOf] <;> omega
        · have f1 : (z == 1) = false := by rw [beq_eq_false_iff_ne]; exact q1
          rw [if_neg q1] at hall
          by_cases q2 : z = 2
          · as_aux_lemma =>
            have f2 : (z == 2) = true := by rw [q2]; rfl
            have HR : Hid (X = (((p ++ List.replicate (ticksOf s) 96) ++ padded s) ++ List.replicate (ticksOf s) 96) ++ wrs (l.drop (k + 1))) := Lib.hid (by rw [HQ.out, if_neg q1, if_pos q2]; simp)
            rw [if_pos q2] at hall
            simp only [List.length_append, List.length_replicate] at hall
            have HF := Lib.hid (rfence_any (S s) (by rw [zs]; omega) w1)
            have HP := Lib.hid (rpadded_any (S s) (by rw [zs]; omega) w1)
            rw [S_list] at HF HP
            generalize padded s = y at *
            generalize ticksOf s = tk at *
            have zy : (S y).size = y.length := S_size _
            clear HQ q1 q2 HI2 HT1
            go_wp2_with fail
            refine HF.out.mono ?_
            rintro e w2 ⟨rfl, rfl⟩
            clear HF
            go_wp2_with fail
            go_loop [6, 30] (fun fv jv => ∃ j : Nat, j ≤ tk ∧ jv = .int .i64 j ∧ fv = .string (S (List.replicate j 96))) (fun _ jv => tk - (intOf jv).toNat)
            case atStart => exact ⟨0, Nat.zero_le _, rfl, rfl⟩
            case round =>
              obtain ⟨j, hj, rfl, rfl⟩ := hrel
              have zj : (S (List.replicate j (96 : UInt8))).size = j := by rw [S_size, List.length_replicate]
              by_cases hjt : j < tk
              · have hi2 : (j : Int) < (tk : Int) := by omega
                have z96 : (⟨#[96]⟩ : ByteArray).size = 1 := rfl
                have gg : ¬ 9223372036854775807 < (S (List.replicate j (96 : UInt8))).size + (⟨#[96]⟩ : ByteArray).size := by omega
                have Hap : Hid (S (List.replicate j (96 : UInt8)) ++ (⟨#[96]⟩ : ByteArray) = S (List.replicate (j + 1) 96)) := Lib.hid (by
                  rw [show (⟨#[96]⟩ : ByteArray) = S [96] from rfl, S_app, ← List.replicate_succ'])
                clear hall HR HP
                go_wp2_with fail
                go_round
                case rel => exact ⟨j + 1, by omega, by go_num, by rw [Hap.out]⟩
                case measure => simp [intOf]; omega
              · obtain rfl : j = tk := by omega
                have hi2 : ¬ (j : Int) < (j : Int) := by omega
                generalize hrp : List.replicate j (96 : UInt8) = f at *
                have zf : f.length = j := by rw [← hrp, List.length_replicate]
                have y1 : (S p ++ S f).size = p.length + j := by rw [ByteArray.size_append, zp, zj]
                have y2 : (S p ++ S f ++ S y).size = p.length + j + y.length := by rw [ByteArray.size_append, y1, zy]
                have gg1 : ¬ 9223372036854775807 < (S p).size + (S f).size := by omega
                have gg2 : ¬ 9223372036854775807 < (S p ++ S f).size + (S y).size := by omega
                have gg3 : ¬ 9223372036854775807 < (S p ++ S f ++ S y).size + (S f).size := by omega
                have hap : Hid (S p ++ S f ++ S y ++ S f = S (((p ++ f) ++ y) ++ f)) := Lib.hid (by rw [S_app, S_app, S_app])
                clear hall hj hjt
                go_wp2_with fail
                refine HP.out.mono ?_
                rintro e w2 ⟨rfl, rfl⟩
                clear HP
                go_wp2_with fail
                go_roundw
                case rel => exact ⟨k + 1, ((p ++ f) ++ y) ++ f, by omega, by go_num, by rw [hap.out], HB1, HR⟩
                case measure => simp [intOf] <;> omega
          · have f2 : (z == 2) = false := by rw [beq_eq_false_iff_ne]; exact q2
            rw [if_neg q2] at hall
            by_cases q3 : z = 3
            · as_aux_lemma =>
              have f3 : (z == 3) = true := by rw [q3]; rfl
              have HR : Hid (X = (p ++ (42 :: (wrs kids ++ [42]))) ++ wrs (l.drop (k + 1))) := Lib.hid (by rw [HQ.out, if_neg q1, if_neg q2, if_pos q3]; simp)
              rw [if_pos q3] at hall
              simp only [List.length_append, List.length_cons, List.length_nil] at hall
              have HW := Lib.hid (HI2.out _ w1 HT1.out)
              generalize wrs kids = y at *
              have zy : (S y).size = y.length := S_size _
              have z42 : (⟨#[42]⟩ : ByteArray).size = 1 := rfl
              have y1 : (S p ++ (⟨#[42]⟩ : ByteArray)).size = p.length + 1 := by rw [ByteArray.size_append, zp, z42]
              have y2 : (S p ++ (⟨#[42]⟩ : ByteArray) ++ S y).size = p.length + 1 + y.length := by rw [ByteArray.size_append, y1, zy]
              have gg1 : ¬ 9223372036854775807 < (S p).size + (⟨#[42]⟩ : ByteArray).size := by omega
              have gg2 : ¬ 9223372036854775807 < (S p ++ (⟨#[42]⟩ : ByteArray)).size + (S y).size := by omega
              have gg3 : ¬ 9223372036854775807 < (S p ++ (⟨#[42]⟩ : ByteArray) ++ S y).size + (⟨#[42]⟩ : ByteArray).size := by omega
              have hap : Hid (S p ++ (⟨#[42]⟩ : ByteArray) ++ S y ++ (⟨#[42]⟩ : ByteArray) = S (p ++ (42 :: (y ++ [42])))) := Lib.hid (by
                rw [show (⟨#[42]⟩ : ByteArray) = S [42] from rfl, S_app, S_app, S_app]
                simp)
              clear HQ hall q1 q2 q3 HI2 HT1
              go_wp2_with fail
              refine HW.out.mono ?_
              rintro e w2 ⟨rfl, b2⟩
              have HB2 := Lib.hid (HB1.out.trans (b2.mono HB1.out.size))
              clear HW b2
              go_wp2_with fail
              go_roundw
              case rel => exact ⟨k + 1, p ++ (42 :: (y ++ [42])), by omega, by go_num, by rw [hap.out], HB2, HR⟩
              case measure => simp [intOf] <;> omega
            · have f3 : (z == 3) = false := by rw [beq_eq_false_iff_ne]; exact q3
              rw [if_neg q3] at hall
              by_cases q4 : z = 4
              · as_aux_lemma =>
                have f4 : (z == 4) = true := by rw [q4]; rfl
                have HR : Hid (X = (p ++ (91 :: (wrs kids ++ (93 :: 40 :: (s ++ [41]))))) ++ wrs (l.drop (k + 1))) := Lib.hid (by rw [HQ.out, if_neg q1, if_neg q2, if_neg q3, if_pos q4]; simp)
                rw [if_pos q4] at hall
                simp only [List.length_append, List.length_cons, List.length_nil] at hall
                have HW := Lib.hid (fun d os => Calls.regrown_of (HI2.out _ (Go.Sort.grow (redrawn w1 d) os) (HT1.out.below (below_regrown w1 d os))))
                generalize wrs kids = y at *
                have zy : (S y).size = y.length := S_size _
                have z91 : (⟨#[91]⟩ : ByteArray).size = 1 := rfl
                have z93 : (⟨#[93, 40]⟩ : ByteArray).size = 2 := rfl
                have z41 : (⟨#[41]⟩ : ByteArray).size = 1 := rfl
                have y1 : (S p ++ (⟨#[91]⟩ : ByteArray)).size = p.length + 1 := by rw [ByteArray.size_append, zp, z91]
                have y2 : (S p ++ (⟨#[91]⟩ : ByteArray) ++ S y).size = p.length + 1 + y.length := by rw [ByteArray.size_append, y1, zy]
                have y3 : (S p ++ (⟨#[91]⟩ : ByteArray) ++ S y ++ (⟨#[93, 40]⟩ : ByteArray)).size = p.length + 3 + y.length := by rw [ByteArray.size_append, y2, z93]; omega
                have y4 : (S p ++ (⟨#[91]⟩ : ByteArray) ++ S y ++ (⟨#[93, 40]⟩ : ByteArray) ++ S s).size = p.length + 3 + y.length + s.length := by rw [ByteArray.size_append, y3, zs]
                have gg1 : ¬ 9223372036854775807 < (S p).size + (⟨#[91]⟩ : ByteArray).size := by omega
                have gg2 : ¬ 9223372036854775807 < (S p ++ (⟨#[91]⟩ : ByteArray)).size + (S y).size := by omega
                have gg3 : ¬ 9223372036854775807 < (S p ++ (⟨#[91]⟩ : ByteArray) ++ S y).size + (⟨#[93, 40]⟩ : ByteArray).size := by omega
                have gg4 : ¬ 9223372036854775807 < (S p ++ (⟨#[91]⟩ : ByteArray) ++ S y ++ (⟨#[93, 40]⟩ : ByteArray)).size + (S s).size := by omega
                have gg5 : ¬ 9223372036854775807 < (S p ++ (⟨#[91]⟩ : ByteArray) ++ S y ++ (⟨#[93, 40]⟩ : ByteArray) ++ S s).size + (⟨#[41]⟩ : ByteArray).size := by omega
                have hap : Hid (S p ++ (⟨#[91]⟩ : ByteArray) ++ S y ++ (⟨#[93, 40]⟩ : ByteArray) ++ S s ++ (⟨#[41]⟩ : ByteArray) = S (p ++ (91 :: (y ++ (93 :: 40 :: (s ++ [41])))))) := Lib.hid (by
                  rw [show (⟨#[91]⟩ : ByteArray) = S [91] from rfl, show (⟨#[93, 40]⟩ : ByteArray) = S [93, 40] from rfl, show (⟨#[41]⟩ : ByteArray) = S [41] from rfl, S_app, S_app, S_app, S_app, S_app]
                  simp)
                clear HQ hall q1 q2 q3 q4 HI2 HT1
                go_upto_region 19 with fail
                have m1 := fun d os => cell_regrown (w := w1) k1 d os
                have m2 := fun d os => cell_regrown (w := w1) k2 d os
                refine wp_region_quiet_below (by kernel_rfl) (by kernel_rfl) ?_
                repeat (go_big_quiet_step (first | (go_at_call 20; exact HW.out _ _)))
                refine wpQuiet_nil ?_
                intro w5 hw5
                obtain ⟨⟨dq, osq⟩, hw5'⟩ := hw5
                subst hw5'
                have HB5 := Lib.hid (HB1.out.trans ((below_regrown w1 dq osq).mono HB1.out.size))
                go_wp2_with fail
                go_roundw
                case rel => exact ⟨k + 1, p ++ (91 :: (y ++ (93 :: 40 :: (s ++ [41])))), by omega, by go_num, by rw [hap.out], HB5, HR⟩
                case measure => simp [intOf] <;> omega
              · as_aux_lemma =>
                have f4 : (z == 4) = false := by rw [beq_eq_false_iff_ne]; exact q4
                have HR : Hid (X = p ++ wrs (l.drop (k + 1))) := Lib.hid (by rw [HQ.out, if_neg q1, if_neg q2, if_neg q3, if_neg q4]; rfl)
                clear HQ hall q1 q2 q3 q4 HI2 HT1
                go_wp2_with fail
                go_roundw
                case rel => exact ⟨k + 1, p, by omega, by go_num, rfl, HB1, HR⟩
                case measure => simp [intOf] <;> omega
      · have hi1 : ¬ (k : Int) < (l.length : Int) := by omega
        have HR : Hid (X = p) := Lib.hid (by rw [HN.out, List.drop_eq_nil_of_le (by omega)]; simp [wrs])
        clear HN HT HIH HSz
        go_wp2_with fail
        go_ret
        exact ⟨ret_str (by rw [HR.out]), HB.out⟩

theorem rchecked_any (l : List Sp) (v : Value) (w : World) (hm : totAll l ≤ 100000) (hf : fitAll 140737488355328 l) (ht : Tr w v l) :
    Calls Tryd.prog 9 #[v] w fun e w' => e = .returned (.tuple #[.string (S (if rtB l = true then wrs l else [])), .int .i64 (if rtB l = true then 0 else 6)]) ∧ Below w.heap.size w w' := by
  have HR := Lib.hid (rright_any l v w hf ht)
  have HW := Lib.hid (fun (w' : World) (hb : Below w.heap.size w w') => rwrite_any (totAll l) l v w' (Nat.le_refl _) hm (ht.below hb))
  obtain ⟨ao, ca, rfl⟩ := ht.len
  clear ht hf hm
  generalize wrs l = y at *
  cases hy : rtB l with
  | true =>
    rw [hy] at HR
    rw [if_pos rfl, if_pos rfl]
    clear hy
    go_enter Tryd.func9, Tryd.ntmps9
    go_wp2_with fail
    refine HR.out.mono ?_
    rintro e w2 ⟨rfl, b2⟩
    have H2 := Lib.hid b2
    have HW2 := Lib.hid (HW.out w2 b2)
    clear b2 HR HW
    go_wp2_with fail
    refine HW2.out.mono ?_
    rintro e w3 ⟨rfl, b3⟩
    have H3 := Lib.hid (H2.out.trans (b3.mono H2.out.size))
    clear b3 HW2
    go_wp2_with fail
    go_ret2
    exact ⟨rfl, H3.out⟩
  | false =>
    rw [hy] at HR
    rw [if_neg (by simp), if_neg (by simp)]
    clear hy HW
    go_enter Tryd.func9, Tryd.ntmps9
    go_wp2_with fail
    refine HR.out.mono ?_
    rintro e w2 ⟨rfl, b2⟩
    have H2 := Lib.hid b2
    clear b2 HR
    go_wp2_with fail
    go_ret2
    exact ⟨rfl, H2.out⟩

end Go.Proofs.YtjgmfgnfdaeelaaDoor.Sp
