/-
  CONTRACT of the document's Digits (emendationref15).
-/
import Derived.Test.YtldllbmbcnipoaaGreatDoorNmPlain
import Derived.Test.YtldllbmbcnipoaaGreatDoorPkTA
import Derived.Lib.SlBytesRow
import Derived.Lib.QuietBelow
import Derived.BigQuiet
namespace Go.Proofs.YtldllbmbcnipoaaGreatDoor.Nm
open Go.RowKit
open Go.Proofs.YtldllbmbcnipoaaGreatDoor.Tk (S S_of S_list S_size S_toList S_app)
open Go.Proofs.YtldllbmbcnipoaaGreatDoor.Bk (Bk Tx)
set_option linter.unusedVariables false

def StrA (w : World) (x : ByteArray) (e : Ending) (w' : World) : Prop := e = .returned (.string x) ∧ Below w.heap.size w w'
theorem ret_str {x y : ByteArray} (h : x = y) : Ending.returned (.string x) = Ending.returned (.string y) := by rw [h]
theorem one_byteN (w : World) (c : UInt8) :
    (convert 45 9 (.slice (some ⟨w.heap.size, 0, none⟩) 1 1)).run Tryz.prog (w.alloc (.cells #[.int .u8 c.toNat] 5)) = .ok (.string (S [c])) (w.alloc (.cells #[.int .u8 c.toNat] 5)) := by
  refine Lib.run_convert_whole (P := Tryz.prog) _ 45 5 9 Tryz.underlying45 Tryz.underlying5 Tryz.underlying9 w.heap.size 0 (S [c]) ?_ 1
  intro i hi
  obtain rfl : i = 0 := by have : i < 1 := hi; omega
  rw [Nat.zero_add, World.cell?_alloc_new]
  rfl
theorem one_byteC (b : Nat) (w' : World) (c : UInt8) (h : w'.cell? ⟨b, 0, none⟩ = some (.int .u8 c.toNat)) :
    (convert 45 9 (.slice (some ⟨b, 0, none⟩) 1 1)).run Tryz.prog w' = .ok (.string (S [c])) w' := by
  refine Lib.run_convert_whole (P := Tryz.prog) _ 45 5 9 Tryz.underlying45 Tryz.underlying5 Tryz.underlying9 b 0 (S [c]) ?_ 1
  intro i hi
  obtain rfl : i = 0 := by have : i < 1 := hi; omega
  exact h
theorem dgB_wrap {k : Nat} (h : k < 10) : IntKind.u8.wrap (48 + (k : Int)) = ((dgB k).toNat : Int) := by
  rw [dgB_val h]
  have e : ∀ x : Int, IntKind.u8.wrap x = x % 256 := by intro x; rfl
  rw [e]
  omega
theorem dig_ne {k : Nat} (h : 0 < k) : ((S (dgN k)).toList == [48]) = false := by
  rw [S_toList, beq_eq_false_iff_ne]
  intro e
  have : dgN k = dgN 0 := by rw [e, dgN_small (by omega)]; rfl
  have := dgN_inj this
  omega
set_option maxHeartbeats 1600000 in
theorem rdig_any (m : Nat) : ∀ (n : Int) (w : World), n.natAbs ≤ m → (-9223372036854775808 ≤ n ∧ n ≤ 9223372036854775807) →
    Calls Tryz.prog 32 #[.int .i64 n] w (StrA w (S (dgI n))) := by
  induction m using Nat.strongRecOn with
  | ind m ih =>
    intro n w hm hr
    unfold StrA at ih ⊢
    by_cases hn : n < 0
    · obtain ⟨k, rfl⟩ : ∃ k : Nat, n = -(k : Int) := ⟨n.natAbs, by omega⟩
      have hk0 : 0 < k := by omega
      have e0 : dgI (-(k : Int)) = 45 :: dgN k := by unfold dgI; rw [if_pos hn, Int.natAbs_neg, Int.natAbs_natCast]
      rw [e0]
      have HI := Lib.hid (fun w' => ih (k / 10) (by omega) ((k / 10 : Nat) : Int) w' (by omega) (by omega))
      have e2 : dgI ((k / 10 : Nat) : Int) = dgN (k / 10) := by unfold dgI; rw [if_neg (by omega), Int.natAbs_natCast]
      rw [e2] at HI
      have hd : dgN k = if k / 10 = 0 then [dgB (k % 10)] else dgN (k / 10) ++ [dgB (k % 10)] := by
        by_cases h : k < 10
        · rw [if_pos (by omega), dgN_small h, Nat.mod_eq_of_lt h]
        · rw [if_neg (by omega), dgN_big h]
      rw [hd]
      obtain ⟨q, hq⟩ : ∃ q, k / 10 = q := ⟨_, rfl⟩
      obtain ⟨r, hr'⟩ : ∃ r, k % 10 = r := ⟨_, rfl⟩
      have hq1 : (-(k : Int)).tdiv 10 = -(q : Int) := by rw [Int.neg_tdiv, Int.tdiv_eq_ediv_of_nonneg (by omega)]; omega
      have hm2 : (-(k : Int)).tmod 10 = -(r : Int) := by rw [Int.neg_tmod, Int.tmod_eq_emod_of_nonneg (by omega)]; omega
      have wq1 : IntKind.i64.wrap (-(q : Int)) = -(q : Int) := by rw [IntKind.wrap_i64]; omega
      have wq2 : IntKind.i64.wrap (q : Int) = (q : Int) := by rw [IntKind.wrap_i64]; omega
      have wq3 : IntKind.i64.wrap (-(-(q : Int))) = (q : Int) := by rw [IntKind.wrap_i64]; omega
      have wr0 : IntKind.i64.wrap (48 + (r : Int)) = 48 + (r : Int) := by rw [IntKind.wrap_i64]; omega
      have wr2 : IntKind.i64.wrap (48 - -(r : Int)) = 48 + (r : Int) := by rw [IntKind.wrap_i64]; omega
      have wr1 := dgB_wrap (k := r) (by omega)
      rw [hq] at HI hd ⊢
      rw [hr'] at hd ⊢
      have hob2 := fun b w' h => one_byteC b w' (dgB r) h
      have hob := fun w' => one_byteN w' (dgB r)
      have hl1 := dgN_20 (n := q) (by omega)
      have zd : (S (dgN q)).size = (dgN q).length := S_size _
      have z1 : (S [dgB r]).size = 1 := S_size _
      have z45 : (⟨#[45]⟩ : ByteArray).size = 1 := rfl
      by_cases h0 : q = 0
      · rw [if_pos h0]
        subst h0
        have e48 : (S (dgN 0)).toList == [48] := by rw [S_toList, dgN_small (by omega)]; rfl
        have hap : Hid ((⟨#[45]⟩ : ByteArray) ++ S [dgB r] = S (45 :: [dgB r])) := Lib.hid (S_app [45] [dgB r])
        have hgn : ¬ 9223372036854775807 < (⟨#[45]⟩ : ByteArray).size + (S [dgB r]).size := by omega
        clear ih hm e0 e2 hd hl1
        go_enter Tryz.func32, Tryz.ntmps32
        go_wp2_with fail
        refine (HI.out _).mono ?_
        rintro e w' ⟨rfl, b'⟩
        have HB := Lib.hid (b'.alloc b'.size (.cells #[.int .u8 ((dgB r).toNat : Int)] 5))
        clear b' HI
        go_wp2_with fail
        go_ret
        exact ⟨ret_str (by rw [← hap.out]; rfl), HB.out⟩
      · rw [if_neg h0]
        have e48 := dig_ne (k := q) (by omega)
        have gg1 : ¬ 9223372036854775807 < (⟨#[45]⟩ : ByteArray).size + (S (dgN q)).size := by omega
        have yy1 : ((⟨#[45]⟩ : ByteArray) ++ S (dgN q)).size = 1 + (dgN q).length := by rw [ByteArray.size_append]; omega
        have gg2 : ¬ 9223372036854775807 < ((⟨#[45]⟩ : ByteArray) ++ S (dgN q)).size + (S [dgB r]).size := by omega
        have hap : Hid ((⟨#[45]⟩ : ByteArray) ++ S (dgN q) ++ S [dgB r] = S (45 :: (dgN q ++ [dgB r]))) := Lib.hid (by rw [show (⟨#[45]⟩ : ByteArray) = S [45] from rfl, S_app, S_app]; rfl)
        clear ih hm e0 e2 hd hl1
        go_enter Tryz.func32, Tryz.ntmps32
        go_wp2_with fail
        refine (HI.out _).mono ?_
        rintro e w' ⟨rfl, b'⟩
        have HB := Lib.hid (b'.alloc b'.size (.cells #[.int .u8 ((dgB r).toNat : Int)] 5))
        clear b' HI
        go_wp2_with fail
        go_ret
        exact ⟨ret_str (by rw [hap.out]), HB.out⟩
    · obtain ⟨k, rfl⟩ : ∃ k : Nat, n = k := ⟨n.toNat, by omega⟩
      have e0 : dgI (k : Int) = dgN k := by unfold dgI; rw [if_neg hn, Int.natAbs_natCast]
      rw [e0]
      have h0 : ¬ (k : Int) < 0 := hn
      by_cases h10 : k < 10
      · have g1 : (k : Int) < 10 := by omega
        have wr0 : IntKind.i64.wrap (48 + (k : Int)) = 48 + (k : Int) := by rw [IntKind.wrap_i64]; omega
        have wr1 := dgB_wrap h10
        have hob := one_byteN w (dgB k)
        have HB := Lib.hid ((Below.refl w.heap.size w).alloc (Nat.le_refl _) (.cells #[.int .u8 ((dgB k).toNat : Int)] 5))
        rw [dgN_small h10]
        clear ih hm e0
        go_enter Tryz.func32, Tryz.ntmps32
        go_wp2_with fail
        go_ret
        exact ⟨rfl, HB.out⟩
      · have g1 : ¬ (k : Int) < 10 := by omega
        have HI := Lib.hid (fun w' => ih (k / 10) (by omega) ((k / 10 : Nat) : Int) w' (by omega) (by omega))
        have e2 : dgI ((k / 10 : Nat) : Int) = dgN (k / 10) := by unfold dgI; rw [if_neg (by omega), Int.natAbs_natCast]
        rw [e2] at HI
        rw [dgN_big h10]
        obtain ⟨q, hq⟩ : ∃ q, k / 10 = q := ⟨_, rfl⟩
        obtain ⟨r, hr'⟩ : ∃ r, k % 10 = r := ⟨_, rfl⟩
        have hq1 : IntKind.i64.wrap ((k : Int) / 10) = (q : Int) := by rw [IntKind.wrap_i64]; omega
        have hm2 : (k : Int) % 10 = (r : Int) := by omega
        have hm3 : (k : Int).tmod 10 = (r : Int) := by rw [Int.tmod_eq_emod_of_nonneg (by omega)]; exact hm2
        rw [hq] at HI ⊢
        rw [hr']
        have wr0 : IntKind.i64.wrap (48 + (r : Int)) = 48 + (r : Int) := by rw [IntKind.wrap_i64]; omega
        have wr1 := dgB_wrap (k := r) (by omega)
        have hob := fun w' => one_byteN w' (dgB r)
        have hob2 := fun b w' h => one_byteC b w' (dgB r) h
        have hl1 := dgN_20 (n := q) (by omega)
        have zd : (S (dgN q)).size = (dgN q).length := S_size _
        have z1 : (S [dgB r]).size = 1 := S_size _
        have gg : ¬ 9223372036854775807 < (S (dgN q)).size + (S [dgB r]).size := by omega
        have hap := Lib.hid (S_app (dgN q) [dgB r])
        clear ih hm e0 e2 hq hr'
        go_enter Tryz.func32, Tryz.ntmps32
        go_upto_region 8 with fail
        go_region_with (go_at_call 32; refine (HI.out _).mono ?_; rintro e w' ⟨rfl, b'⟩; try (have hc' : w'.cell? ⟨w.heap.size, 0, none⟩ = some (.int .u8 (dgB r).toNat) := (b'.cell (by simp)).trans (World.cell?_alloc_new ..)))
        all_goals (
          go_wp2_with fail
          go_ret
          refine ⟨ret_str (by rw [hap.out]), ?_⟩
          first
            | exact ((Below.refl w.heap.size w).drew.trans b').alloc ((Below.refl w.heap.size w).drew.trans b').size _
            | exact ((Below.refl w.heap.size w).drew.alloc (Nat.le_refl _) _).trans (b'.mono ((Below.refl w.heap.size w).drew.alloc (Nat.le_refl _) _).size))
end Go.Proofs.YtldllbmbcnipoaaGreatDoor.Nm
