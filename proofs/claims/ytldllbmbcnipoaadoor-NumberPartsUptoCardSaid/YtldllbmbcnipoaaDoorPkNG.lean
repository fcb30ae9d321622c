/-
  Several texts in one:
  CONTRACT of the document's Digits (emendationref15).
  CONTRACTS of the document's text and spans (emendationref15).
  CONTRACTS of strconv.Itoa (where its table lies as it was laid), and of a writer's number and text (number).
-/
import Derived.Test.YtldllbmbcnipoaaDoorNmPlain
import Derived.Test.YtldllbmbcnipoaaDoorPkNB
import Derived.Lib.SlBytesRow
import Derived.Lib.QuietBelow
import Derived.BigQuiet
import Derived.Test.YtldllbmbcnipoaaDoorPkND
import Derived.Test.YtldllbmbcnipoaaDoorNmPut
import Derived.Test.YtldllbmbcnipoaaDoorShelf
namespace Go.Proofs.YtldllbmbcnipoaaDoor.Nm
open Go.RowKit
open Go.Proofs.YtldllbmbcnipoaaDoor.Tk (S S_of S_list S_size S_toList S_app)
open Go.Proofs.YtldllbmbcnipoaaDoor.Bk (Bk Tx)
set_option linter.unusedVariables false

def StrA (w : World) (x : ByteArray) (e : Ending) (w' : World) : Prop := e = .returned (.string x) ∧ Below w.heap.size w w'
theorem ret_str {x y : ByteArray} (h : x = y) : Ending.returned (.string x) = Ending.returned (.string y) := by rw [h]
theorem one_byteN (w : World) (c : UInt8) :
    (convert 46 9 (.slice (some ⟨w.heap.size, 0, none⟩) 1 1)).run Tryd.prog (w.alloc (.cells #[.int .u8 c.toNat] 5)) = .ok (.string (S [c])) (w.alloc (.cells #[.int .u8 c.toNat] 5)) := by
  refine Lib.run_convert_whole (P := Tryd.prog) _ 46 5 9 Tryd.underlying46 Tryd.underlying5 Tryd.underlying9 w.heap.size 0 (S [c]) ?_ 1
  intro i hi
  obtain rfl : i = 0 := by have : i < 1 := hi; omega
  rw [Nat.zero_add, World.cell?_alloc_new]
  rfl
theorem one_byteC (b : Nat) (w' : World) (c : UInt8) (h : w'.cell? ⟨b, 0, none⟩ = some (.int .u8 c.toNat)) :
    (convert 46 9 (.slice (some ⟨b, 0, none⟩) 1 1)).run Tryd.prog w' = .ok (.string (S [c])) w' := by
  refine Lib.run_convert_whole (P := Tryd.prog) _ 46 5 9 Tryd.underlying46 Tryd.underlying5 Tryd.underlying9 b 0 (S [c]) ?_ 1
  intro i hi
  obtain rfl : i = 0 := by have : i < 1 := hi; omega
  exact h
theorem dgB_wrap {k : Nat} (h : k < 10) : IntKind.u8.wrap (48 + (k : Int)) = ((dgB k).toNat : Int) := by
  rw [dgB_val h]
  have e : ∀ x : Int, IntKind.u8.wrap x = x % 256 := by intro x; rfl
  rw [e]
  omega
theorem dig_ne {k : Nat} (h : 0 < k) : ((S (dgN k)).toList == [48]) = false := by
  rw [S_toList, beq_eq_false_iff_ne]
  intro e
  have : dgN k = dgN 0 := by rw [e, dgN_small (by omega)]; rfl
  have := dgN_inj this
  omega
end Go.Proofs.YtldllbmbcnipoaaDoor.Nm

namespace Go.Proofs.YtldllbmbcnipoaaDoor.Nm
open Go.RowKit
open Go.Proofs.YtldllbmbcnipoaaDoor.Tk (S S_of S_list S_size S_toList S_app)
open Go.Proofs.YtldllbmbcnipoaaDoor.Sp (Sp Tr totAll totOne totAll_cons totAll_mem totAll_kids drop_cons fitAll fitOne fitAll_at)
open Go.Proofs.YtldllbmbcnipoaaDoor.Bk (Bk Tx)
set_option linter.unusedVariables false

theorem tx_len {s : Tx} (h : s.length ≤ 9223372036854775808) : (tx s).length ≤ s.length + 20 := by
  have := dgN_20 h
  unfold tx
  rw [List.length_append, List.length_cons]
  omega
theorem dgI_nat (n : Nat) : dgI (n : Int) = dgN n := by unfold dgI; rw [if_neg (by omega), Int.natAbs_natCast]
theorem sp1_eq (x : Sp) : sp1 x = dgI x.kind ++ 59 :: (tx x.s ++ spK x.kids) := by
  obtain ⟨k, s, l⟩ := x
  rw [sp1]
  rfl
mutual
theorem sp1_len {R : Nat} (hR : R ≤ 9223372036854775808) : ∀ x : Sp, fitOne R x → totOne x ≤ 9223372036854775807 → (sp1 x).length ≤ 70 * totOne x
  | .mk k s l, hf, ht => by
    rw [totOne] at ht ⊢
    unfold fitOne at hf
    have h1 := dgI_21 hf.1
    have h2 := tx_len (s := s) (by omega)
    have h3 := Sp.totAll_len l
    have h4 := dgN_20 (n := l.length) (by omega)
    have h5 := spR_len hR l hf.2.2 (by omega)
    rw [sp1]
    simp only [List.length_append, List.length_cons]
    omega
theorem spR_len {R : Nat} (hR : R ≤ 9223372036854775808) : ∀ l : List Sp, fitAll R l → totAll l ≤ 9223372036854775807 → (spR l).length ≤ 70 * totAll l
  | [], _, _ => by simp [spR]
  | x :: r, hf, ht => by
    unfold fitAll at hf
    rw [totAll_cons] at ht ⊢
    have h1 := sp1_len hR x hf.1 (by omega)
    have h2 := spR_len hR r hf.2 (by omega)
    rw [spR, List.length_append]
    omega
end
end Go.Proofs.YtldllbmbcnipoaaDoor.Nm

namespace Go.Proofs.YtldllbmbcnipoaaDoor.Nm
open Go.RowKit
open Go.Proofs.YtldllbmbcnipoaaDoor.Tk (S S_of S_list S_size S_toList S_app)
open Go.Proofs.YtldllbmbcnipoaaDoor.Bk (Bk Tx)
set_option linter.unusedVariables false

theorem dec_dgN (n : Nat) : Lib.decDigits n = dgN n := by
  induction n using Nat.strongRecOn with
  | ind n ih =>
    by_cases h : n < 10
    · rw [Lib.decDigits, dif_pos h, dgN_small h]; rfl
    · rw [Lib.decDigits, dif_neg h, dgN_big h, ih (n / 10) (by omega)]; rfl
theorem itoa_dgI (n : Int) : Lib.itoa n = dgI n := by
  unfold Lib.itoa dgI
  split
  · rw [dec_dgN]
  · rw [dec_dgN, show n.toNat = n.natAbs by omega]
theorem itoaP_any (n : Int) (hn : -9223372036854775808 ≤ n ∧ n ≤ 9223372036854775807) (w : World) (hT : Tab w) :
    Calls Tryd.prog 42 #[.int .i64 n] w (StrA w (S (dgI n))) := by
  refine (Tryd.strconv_Itoa n hn.1 hn.2 w hT).mono ?_
  rintro e w' ⟨rfl, k, os, rfl⟩
  refine ⟨?_, Lib.below_grow w.heap.size w (Nat.le_refl _) k os⟩
  rw [itoa_dgI]
  rfl
/-- A call that writes, and answers nothing. -/
def WrA (B b : Nat) (t : Tx) (w : World) (e : Ending) (w' : World) : Prop := e = .returned (.tuple #[]) ∧ PgAns B b t w w'
theorem byte59 (B b : Nat) (t : Tx) (w : World) (h : Pg B b t w) (hlen : t.length + 1 ≤ 140737488355328) (hBw : B ≤ w.heap.size) :
    Calls Tryd.prog 43 #[.pointer (some ⟨b, 0, none⟩), .int .u8 59] w fun e w' => e = .returned .nilIface ∧ PgAns B b (t ++ [59]) w w' := byteP_any B b t 59 w h hlen hBw
theorem byte58 (B b : Nat) (t : Tx) (w : World) (h : Pg B b t w) (hlen : t.length + 1 ≤ 140737488355328) (hBw : B ≤ w.heap.size) :
    Calls Tryd.prog 43 #[.pointer (some ⟨b, 0, none⟩), .int .u8 58] w fun e w' => e = .returned .nilIface ∧ PgAns B b (t ++ [58]) w w' := byteP_any B b t 58 w h hlen hBw
set_option maxHeartbeats 1000000 in
theorem numP_any (n : Int) (t : Tx) (b : Nat) (w0 w : World) (hT : Tab w0) (hw : Below w0.heap.size w0 w) (h : Pg w0.heap.size b t w) (hn : -9223372036854775808 ≤ n ∧ n ≤ 9223372036854775807) (hlen : t.length ≤ 100000000) :
    Calls Tryd.prog 29 #[.pointer (some ⟨b, 0, none⟩), .int .i64 n] w (WrA w0.heap.size b (t ++ (dgI n ++ [59])) w) := by
  have HI := Lib.hid (fun w' (h : Below w.heap.size w w') => itoaP_any n hn w' (hT.below (hw.trans (h.mono hw.size))))
  have hl := dgI_21 hn
  have HG := Lib.hid (PgAns.refl h)
  have hB := hw.size
  have HW := Lib.hid (fun w' (g : PgAns w0.heap.size b t w w') => strP_any w0.heap.size b t (S (dgI n)) w' g.pg (by rw [S_size]; omega) (g.size hB))
  have HY := Lib.hid (fun w' (g : PgAns w0.heap.size b (t ++ dgI n) w w') => byte59 w0.heap.size b (t ++ dgI n) w' g.pg (by rw [List.length_append]; omega) (g.size hB))
  simp only [S_list] at HW
  unfold StrA at HI
  unfold WrA
  rw [← List.append_assoc]
  clear hT hw h hn hlen hl
  generalize S (dgI n) = sd at *
  generalize dgI n = d at *
  go_enter Tryd.func29, Tryd.ntmps29
  go_upto_region 0 with fail
  go_region_with (first
    | (go_at_call 42
       refine (HI.out _ (by first | exact Below.refl _ _ | exact (Below.refl _ _).drew)).mono ?_
       rintro e w1 ⟨rfl, b1⟩)
    | (go_at_call 41
       refine (HW.out _ (HG.out.more hB (by first | exact b1 | exact (Below.refl _ _).drew.trans b1))).mono ?_
       rintro e w2 ⟨rfl, b2⟩))
  all_goals (
  have hb1 : Below w.heap.size w w1 := by first | exact b1 | exact (Below.refl _ _).drew.trans b1
  have HG2 := Lib.hid ((HG.out.more hB hb1).trans b2)
  have HY2 := Lib.hid (HY.out w2 HG2.out)
  clear b2 b1 hb1 HI HW HY HG
  go_wp2_with fail
  refine HY2.out.mono ?_
  rintro e w3 ⟨rfl, b3⟩
  have HR := Lib.hid (HG2.out.trans b3)
  clear b3 HY2 HG2
  go_wp2_with fail
  go_end0
  exact ⟨rfl, HR.out⟩)
set_option maxHeartbeats 1000000 in
theorem txtP_any (s t : Tx) (b : Nat) (w0 w : World) (hT : Tab w0) (hw : Below w0.heap.size w0 w) (h : Pg w0.heap.size b t w) (hs : s.length ≤ 100000000) (hlen : t.length ≤ 100000000) :
    Calls Tryd.prog 30 #[.pointer (some ⟨b, 0, none⟩), .string (S s)] w (WrA w0.heap.size b (t ++ tx s) w) := by
  have HI := Lib.hid (fun w' (h : Below w.heap.size w w') => itoaP_any (s.length : Int) (by omega) w' (hT.below (hw.trans (h.mono hw.size))))
  simp only [dgI_nat] at HI
  have hl := dgN_20 (n := s.length) (by omega)
  have HG := Lib.hid (PgAns.refl h)
  have hB := hw.size
  have HW := Lib.hid (fun w' (g : PgAns w0.heap.size b t w w') => strP_any w0.heap.size b t (S (dgN s.length)) w' g.pg (by rw [S_size]; omega) (g.size hB))
  have HY := Lib.hid (fun w' (g : PgAns w0.heap.size b (t ++ dgN s.length) w w') => byte58 w0.heap.size b (t ++ dgN s.length) w' g.pg (by rw [List.length_append]; omega) (g.size hB))
  have HS := Lib.hid (fun w' (g : PgAns w0.heap.size b (t ++ dgN s.length ++ [58]) w w') => strP_any w0.heap.size b (t ++ dgN s.length ++ [58]) (S s) w' g.pg (by rw [S_size, List.length_append, List.length_append, List.length_singleton]; omega) (g.size hB))
  have zs : (S s).size = s.length := S_size _
  simp only [S_list] at HW HS
  have et : t ++ tx s = t ++ dgN s.length ++ [58] ++ s := by unfold tx; simp
  unfold StrA at HI
  unfold WrA
  rw [et]
  clear hT hw h hlen hl et
  generalize S (dgN s.length) = sd at *
  generalize dgN s.length = d at *
  generalize S s = ss at *
  generalize s.length = n at *
  go_enter Tryd.func30, Tryd.ntmps30
  go_upto_region 0 with fail
  go_region_with (first
    | (go_at_call 42
       refine (HI.out _ (by first | exact Below.refl _ _ | exact (Below.refl _ _).drew)).mono ?_
       rintro e w1 ⟨rfl, b1⟩)
    | (go_at_call 41
       refine (HW.out _ (HG.out.more hB (by first | exact b1 | exact (Below.refl _ _).drew.trans b1))).mono ?_
       rintro e w2 ⟨rfl, b2⟩))
  all_goals (
  have hb1 : Below w.heap.size w w1 := by first | exact b1 | exact (Below.refl _ _).drew.trans b1
  have HG2 := Lib.hid ((HG.out.more hB hb1).trans b2)
  have HY2 := Lib.hid (HY.out w2 HG2.out)
  clear b2 b1 hb1 HI HW HY HG
  go_wp2_with fail
  refine HY2.out.mono ?_
  rintro e w3 ⟨rfl, b3⟩
  have HG3 := Lib.hid (HG2.out.trans b3)
  have HS3 := Lib.hid (HS.out w3 HG3.out)
  clear b3 HY2 HG2 HS
  go_wp2_with fail
  refine HS3.out.mono ?_
  rintro e w4 ⟨rfl, b4⟩
  have HR := Lib.hid (HG3.out.trans b4)
  clear b4 HS3 HG3
  go_wp2_with fail
  go_end0
  exact ⟨rfl, HR.out⟩)
end Go.Proofs.YtldllbmbcnipoaaDoor.Nm
