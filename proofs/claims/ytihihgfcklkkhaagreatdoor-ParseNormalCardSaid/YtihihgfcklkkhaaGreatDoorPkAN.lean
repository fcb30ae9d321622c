import Derived.Test.YtihihgfcklkkhaaGreatDoorPkAM
import Derived.Test.YtihihgfcklkkhaaGreatDoorPkAL
import Derived.Test.YtihihgfcklkkhaaGreatDoorPkAK
import Derived.Test.YtihihgfcklkkhaaGreatDoorPkAB
import Derived.Test.YtihihgfcklkkhaaGreatDoorPkL
import Derived.Test.YtihihgfcklkkhaaGreatDoorPkI
namespace Go.Proofs.YtihihgfcklkkhaaGreatDoor.Pa
open Go.RowKit
open Go.Proofs.YtihihgfcklkkhaaGreatDoor.Tk (S S_of S_list S_size S_toList S_app ret_int eq8 ne8 at_data len_data Rd)
open Go.Proofs.YtihihgfcklkkhaaGreatDoor.Sp (Sp Tr ret_bool)
open Go.Proofs.YtihihgfcklkkhaaGreatDoor.Bt (TrB KB)
open Go.Proofs.YtihihgfcklkkhaaGreatDoor.Cm (Keep alloc_new alloc_at cell_at frozen_at set_at set_other lt_of_at)
open Go.Proofs.YtihihgfcklkkhaaGreatDoor.Bk (Tx Bk fenceL spanK itemL dropBlank listL kindOf closes unquote unitem inner parse joinLF define items)
open Go.Proofs.YtihihgfcklkkhaaGreatDoor.Ln (run trim jn)
open Go.Proofs.YtihihgfcklkkhaaGreatDoor.Kd (E0 NumK StrK uqT dfB told11)
set_option linter.unusedVariables false
theorem ans_bz {w w3 w9 : World} {B' : Nat} {o : Option Bk} {n p : Nat} {vl vs vk : Value} (HP : n = p) (HB : Below w.heap.size w w9) (hB : w.heap.size ≤ B') (hk : Keep (fun j => j < B') w3 w9) (h : ∀ w'', Keep (fun j => j < B') w3 w'' → KB w'' (bz o, vl, vs, vk)) :
    BlockAns w o n (.returned (.tuple #[.agg #[.int .i64 (bz o).kind, .int .i64 (bz o).level, .string (S (bz o).info), vl, vs, vk], .int .i64 (p : Nat)])) w9 := by
  subst HP
  exact ⟨vl, vs, vk, rfl, HB, fun w'' k2 => h w'' (hk.trans (k2.mono (fun j _ hj => Nat.lt_of_lt_of_le hj hB)))⟩
theorem span_whole {k : Nat} {s : Tx} {u : List Tx} (h : (spanK E0 k (s :: u)).2 = []) : (spanK E0 k (s :: u)).1 = s :: u := by
  have h1 := span_fst E0 k (s :: u)
  rw [h] at h1
  simpa using h1
set_option maxHeartbeats 3200000 in
set_option maxRecDepth 100000 in
theorem blockP2_any (d : Nat) (v : Value) (s : Tx) (u : List Tx) (w : World) (hr : Rd w v (s :: u)) (ht : tot (s :: u) ≤ 20000) (hk : kindOf E0 s = 2) (hre : restB s u = []) :
    Calls Tryz.prog 72 #[rdV (16 - d), v] w (BlockAns w (valB allE d s u) (er (valB allE d s u))) := by
  obtain ⟨ao, ca, rfl⟩ := hr.len
  have hsz : s.length ≤ 20000 := by have := tot_mem (s :: u) s (List.mem_cons_self ..); omega
  have HRd := Lib.hid (fun w' (h : Below w.heap.size w w') => hr.below h)
  have HO : Hid (∀ w', Calls Tryz.prog 36 #[.string (S s)] w' (NumK w' 2)) := Lib.hid (fun w' => by
    have h := told11.of (S s) w' (by rw [S_size]; exact hsz)
    rw [S_list, hk] at h
    exact h)
  unfold NumK at HO
  obtain ⟨r, hrr⟩ : ∃ r, 16 - d = r := ⟨_, rfl⟩
  have HC := Lib.hid (fun w' => headingP_any s hsz hk w')
  obtain ⟨b, hb⟩ : ∃ b, Bk.mk 2 (run 35 s) [] [] (parse (trim (s.drop (run 35 s)))) [] = b := ⟨_, rfl⟩
  have HV : Hid (valB allE d s u = some b) := Lib.hid (by rw [val2 hk, ← hb])
  simp only [hb] at HC
  rw [hrr]
  unfold rdV
  generalize valB allE d s u = O at *
  unfold BlkF at HC
  clear hb hk hre hr ht hrr hsz
  have HA0 := alloc_at (alloc_new w (.cells #[.int .i64 (r : Nat)] 64)) (.cells #[.int .i64 0, .int .i64 0, .string ⟨#[]⟩, .slice none 0 0, .slice none 0 0, .slice none 0 0] 42)
  have HA2 : Hid ((((w.alloc (.cells #[.int .i64 (r : Nat)] 64)).alloc (.cells #[.int .i64 0, .int .i64 0, .string ⟨#[]⟩, .slice none 0 0, .slice none 0 0, .slice none 0 0] 42)).heap[(w.alloc (.cells #[.int .i64 (r : Nat)] 64)).heap.size]?) = some (.cells #[.int .i64 0, .int .i64 0, .string ⟨#[]⟩, .slice none 0 0, .slice none 0 0, .slice none 0 0] 42 (0, 0))) := Lib.hid (alloc_new _ _)
  have hz1 : (w.alloc (.cells #[.int .i64 (r : Nat)] 64)).heap.size = w.heap.size + 1 := by simp
  rw [hz1] at HA2
  have HB1 := Lib.hid (((Below.refl w.heap.size w).alloc (Nat.le_refl _) (.cells #[.int .i64 (r : Nat)] 64)).alloc (by simp) (.cells #[.int .i64 0, .int .i64 0, .string ⟨#[]⟩, .slice none 0 0, .slice none 0 0, .slice none 0 0] 42))
  have HA1 := Lib.hid HA0
  clear HA0
  go_enter Tryz.func72, Tryz.ntmps72
  go_upto_region 1 with fail
  try rw [hz1]
  clear hz1
  generalize (w.alloc (.cells #[.int .i64 (r : Nat)] 64)).alloc (.cells #[.int .i64 0, .int .i64 0, .string ⟨#[]⟩, .slice none 0 0, .slice none 0 0, .slice none 0 0] 42) = w1 at *
  obtain ⟨b0, o0, hbo, c0⟩ := Bt.Rd.at (HRd.out w1 HB1.out) 0 (by simp)
  subst hbo
  simp only [List.getElem_cons_zero, Nat.add_zero] at c0
  have h0i : (0 : Int) < ((s :: u).length : Int) := by simp only [List.length_cons]; omega
  go_wp2_with fail
  refine (HO.out _).mono ?_
  rintro e w2 ⟨rfl, b2⟩
  have HR2 : Hid (w2.heap[w.heap.size + 1]? = some (.cells #[.int .i64 0, .int .i64 0, .string ⟨#[]⟩, .slice none 0 0, .slice none 0 0, .slice none 0 0] 42 (0, 0))) := Lib.hid ((b2.block _ (lt_of_at HA2.out)).trans HA2.out)
  have HX2 : Hid (w2.heap[w.heap.size]? = some (.cells #[.int .i64 (r : Nat)] 64 (0, 0))) := Lib.hid ((b2.block _ (lt_of_at HA1.out)).trans HA1.out)
  have HB2 := Lib.hid (HB1.out.trans (b2.mono HB1.out.size))
  have HRd2 := Lib.hid (HRd.out w2 HB2.out)
  clear b2 HO HA1 HA2 HB1 c0
  obtain ⟨b0', o0', hbo, c0⟩ := Bt.Rd.at HRd2.out 0 (by simp)
  simp only [Option.some.injEq, Addr.mk.injEq, and_true] at hbo
  obtain ⟨rfl, rfl⟩ := hbo
  simp only [List.getElem_cons_zero, Nat.add_zero] at c0
  generalize S s = ss at *
  go_wp2_with fail
  refine (HC.out _).mono ?_
  rintro e w3 ⟨vl, vs', vk, rfl, b3, hkb⟩
  have hkb0 := hkb w3 (Keep.refl _ _)
  obtain ⟨al, cl, hvl⟩ := hkb0.rd.len
  obtain ⟨as', cs, hvs⟩ := hkb0.sp.len
  obtain ⟨ak, ck, hvk⟩ := hkb0.tr.len
  simp only at hvl hvs hvk
  subst hvl; subst hvs; subst hvk
  have HKB := Lib.hid hkb
  have HR3 : Hid (w3.heap[w.heap.size + 1]? = some (.cells #[.int .i64 0, .int .i64 0, .string ⟨#[]⟩, .slice none 0 0, .slice none 0 0, .slice none 0 0] 42 (0, 0))) := Lib.hid ((b3.block _ (lt_of_at HR2.out)).trans HR2.out)
  have HB3 := Lib.hid (HB2.out.trans (b3.mono HB2.out.size))
  have hlt2 := lt_of_at HR2.out
  have hz2 := HB2.out.size
  clear b3 hkb hkb0 HR2 HX2 HB2
  have k0 : w3.cell? ⟨w.heap.size + 1, 0, none⟩ = some (.int .i64 0) := cell_at HR3.out 0
  have f0 : w3.frozen? ⟨w.heap.size + 1, 0, none⟩ = false := frozen_at HR3.out 0
  have k1 : w3.cell? ⟨w.heap.size + 1, 1, none⟩ = some (.int .i64 0) := cell_at HR3.out 1
  have f1 : w3.frozen? ⟨w.heap.size + 1, 1, none⟩ = false := frozen_at HR3.out 1
  have k2 : w3.cell? ⟨w.heap.size + 1, 2, none⟩ = some (.string ⟨#[]⟩) := cell_at HR3.out 2
  have f2 : w3.frozen? ⟨w.heap.size + 1, 2, none⟩ = false := frozen_at HR3.out 2
  have k3 : w3.cell? ⟨w.heap.size + 1, 3, none⟩ = some (.slice none 0 0) := cell_at HR3.out 3
  have f3 : w3.frozen? ⟨w.heap.size + 1, 3, none⟩ = false := frozen_at HR3.out 3
  have k4 : w3.cell? ⟨w.heap.size + 1, 4, none⟩ = some (.slice none 0 0) := cell_at HR3.out 4
  have f4 : w3.frozen? ⟨w.heap.size + 1, 4, none⟩ = false := frozen_at HR3.out 4
  have k5 : w3.cell? ⟨w.heap.size + 1, 5, none⟩ = some (.slice none 0 0) := cell_at HR3.out 5
  have f5 : w3.frozen? ⟨w.heap.size + 1, 5, none⟩ = false := frozen_at HR3.out 5
  go_wp2_with fail
  have HS := Lib.hid (Kd.set6 (u0 := .int .i64 b.kind) (u1 := .int .i64 b.level) (u2 := .string (S b.info)) (u3 := .slice al b.lines.length cl) (u4 := .slice as' b.spans.length cs) (u5 := .slice ak b.kids.length ck) HR3.out)
  have HB9 := Lib.hid (Kd.set6_below HB3.out (Nat.le_succ _) (.int .i64 b.kind) (.int .i64 b.level) (.string (S b.info)) (.slice al b.lines.length cl) (.slice as' b.spans.length cs) (.slice ak b.kids.length ck))
  have HK9 := Lib.hid (fun B hB => set6_keep (w := w3) (b := w.heap.size + 1) (B := B) hB (.int .i64 b.kind) (.int .i64 b.level) (.string (S b.info)) (.slice al b.lines.length cl) (.slice as' b.spans.length cs) (.slice ak b.kids.length ck))
  generalize ((((((w3.setCell ⟨w.heap.size + 1, 0, none⟩ (.int .i64 b.kind)).setCell ⟨w.heap.size + 1, 1, none⟩ (.int .i64 b.level)).setCell ⟨w.heap.size + 1, 2, none⟩ (.string (S b.info))).setCell ⟨w.heap.size + 1, 3, none⟩ (.slice al b.lines.length cl)).setCell ⟨w.heap.size + 1, 4, none⟩ (.slice as' b.spans.length cs)).setCell ⟨w.heap.size + 1, 5, none⟩ (.slice ak b.kids.length ck)) = w9 at *
  have r0 : w9.cell? ⟨w.heap.size + 1, 0, none⟩ = some (.int .i64 b.kind) := cell_at HS.out 0
  have r1 : w9.cell? ⟨w.heap.size + 1, 1, none⟩ = some (.int .i64 b.level) := cell_at HS.out 1
  have r2 : w9.cell? ⟨w.heap.size + 1, 2, none⟩ = some (.string (S b.info)) := cell_at HS.out 2
  have r3 : w9.cell? ⟨w.heap.size + 1, 3, none⟩ = some (.slice al b.lines.length cl) := cell_at HS.out 3
  have r4 : w9.cell? ⟨w.heap.size + 1, 4, none⟩ = some (.slice as' b.spans.length cs) := cell_at HS.out 4
  have r5 : w9.cell? ⟨w.heap.size + 1, 5, none⟩ = some (.slice ak b.kids.length ck) := cell_at HS.out 5
  exact bodyPost_ret (v := .tuple #[.agg #[.int .i64 b.kind, .int .i64 b.level, .string (S b.info), .slice al b.lines.length cl, .slice as' b.spans.length cs, .slice ak b.kids.length ck], .int .i64 ((0 : Nat) : Int)]) (by simp [results, Tryz.results72, go_sem, r0, r1, r2, r3, r4, r5]) rfl (by rw [HV.out]; exact ans_bz (o := some b) rfl HB9.out hz2 (HK9.out _ hlt2) HKB.out)
set_option maxHeartbeats 3200000 in
set_option maxRecDepth 100000 in
theorem blockP3_any (d : Nat) (v : Value) (s : Tx) (u : List Tx) (w : World) (hr : Rd w v (s :: u)) (ht : tot (s :: u) ≤ 20000) (hk : kindOf E0 s = 3) (hre : restB s u = []) :
    Calls Tryz.prog 72 #[rdV (16 - d), v] w (BlockAns w (valB allE d s u) (er (valB allE d s u))) := by
  obtain ⟨ao, ca, rfl⟩ := hr.len
  have hsz : s.length ≤ 20000 := by have := tot_mem (s :: u) s (List.mem_cons_self ..); omega
  have HRd := Lib.hid (fun w' (h : Below w.heap.size w w') => hr.below h)
  have HO : Hid (∀ w', Calls Tryz.prog 36 #[.string (S s)] w' (NumK w' 3)) := Lib.hid (fun w' => by
    have h := told11.of (S s) w' (by rw [S_size]; exact hsz)
    rw [S_list, hk] at h
    exact h)
  unfold NumK at HO
  obtain ⟨r, hrr⟩ : ∃ r, 16 - d = r := ⟨_, rfl⟩
  have HV : Hid (valB allE d s u = some (.mk 3 0 [] [] [] [])) := Lib.hid (val3 hk)
  rw [hrr]
  unfold rdV
  generalize valB allE d s u = O at *
  clear hk hre hr ht hrr hsz
  have HA0 := alloc_at (alloc_new w (.cells #[.int .i64 (r : Nat)] 64)) (.cells #[.int .i64 0, .int .i64 0, .string ⟨#[]⟩, .slice none 0 0, .slice none 0 0, .slice none 0 0] 42)
  have HA2 : Hid ((((w.alloc (.cells #[.int .i64 (r : Nat)] 64)).alloc (.cells #[.int .i64 0, .int .i64 0, .string ⟨#[]⟩, .slice none 0 0, .slice none 0 0, .slice none 0 0] 42)).heap[(w.alloc (.cells #[.int .i64 (r : Nat)] 64)).heap.size]?) = some (.cells #[.int .i64 0, .int .i64 0, .string ⟨#[]⟩, .slice none 0 0, .slice none 0 0, .slice none 0 0] 42 (0, 0))) := Lib.hid (alloc_new _ _)
  have hz1 : (w.alloc (.cells #[.int .i64 (r : Nat)] 64)).heap.size = w.heap.size + 1 := by simp
  rw [hz1] at HA2
  have HB1 := Lib.hid (((Below.refl w.heap.size w).alloc (Nat.le_refl _) (.cells #[.int .i64 (r : Nat)] 64)).alloc (by simp) (.cells #[.int .i64 0, .int .i64 0, .string ⟨#[]⟩, .slice none 0 0, .slice none 0 0, .slice none 0 0] 42))
  have HA1 := Lib.hid HA0
  clear HA0
  go_enter Tryz.func72, Tryz.ntmps72
  go_upto_region 1 with fail
  try rw [hz1]
  clear hz1
  generalize (w.alloc (.cells #[.int .i64 (r : Nat)] 64)).alloc (.cells #[.int .i64 0, .int .i64 0, .string ⟨#[]⟩, .slice none 0 0, .slice none 0 0, .slice none 0 0] 42) = w1 at *
  obtain ⟨b0, o0, hbo, c0⟩ := Bt.Rd.at (HRd.out w1 HB1.out) 0 (by simp)
  subst hbo
  simp only [List.getElem_cons_zero, Nat.add_zero] at c0
  have h0i : (0 : Int) < ((s :: u).length : Int) := by simp only [List.length_cons]; omega
  go_wp2_with fail
  refine (HO.out _).mono ?_
  rintro e w2 ⟨rfl, b2⟩
  have HR2 : Hid (w2.heap[w.heap.size + 1]? = some (.cells #[.int .i64 0, .int .i64 0, .string ⟨#[]⟩, .slice none 0 0, .slice none 0 0, .slice none 0 0] 42 (0, 0))) := Lib.hid ((b2.block _ (lt_of_at HA2.out)).trans HA2.out)
  have HX2 : Hid (w2.heap[w.heap.size]? = some (.cells #[.int .i64 (r : Nat)] 64 (0, 0))) := Lib.hid ((b2.block _ (lt_of_at HA1.out)).trans HA1.out)
  have HB2 := Lib.hid (HB1.out.trans (b2.mono HB1.out.size))
  have HRd2 := Lib.hid (HRd.out w2 HB2.out)
  clear b2 HO HA1 HA2 HB1 c0
  have k0 : w2.cell? ⟨w.heap.size + 1, 0, none⟩ = some (.int .i64 0) := cell_at HR2.out 0
  have f0 : w2.frozen? ⟨w.heap.size + 1, 0, none⟩ = false := frozen_at HR2.out 0
  have k1 : w2.cell? ⟨w.heap.size + 1, 1, none⟩ = some (.int .i64 0) := cell_at HR2.out 1
  have f1 : w2.frozen? ⟨w.heap.size + 1, 1, none⟩ = false := frozen_at HR2.out 1
  have k2 : w2.cell? ⟨w.heap.size + 1, 2, none⟩ = some (.string ⟨#[]⟩) := cell_at HR2.out 2
  have f2 : w2.frozen? ⟨w.heap.size + 1, 2, none⟩ = false := frozen_at HR2.out 2
  have k3 : w2.cell? ⟨w.heap.size + 1, 3, none⟩ = some (.slice none 0 0) := cell_at HR2.out 3
  have f3 : w2.frozen? ⟨w.heap.size + 1, 3, none⟩ = false := frozen_at HR2.out 3
  have k4 : w2.cell? ⟨w.heap.size + 1, 4, none⟩ = some (.slice none 0 0) := cell_at HR2.out 4
  have f4 : w2.frozen? ⟨w.heap.size + 1, 4, none⟩ = false := frozen_at HR2.out 4
  have k5 : w2.cell? ⟨w.heap.size + 1, 5, none⟩ = some (.slice none 0 0) := cell_at HR2.out 5
  have f5 : w2.frozen? ⟨w.heap.size + 1, 5, none⟩ = false := frozen_at HR2.out 5
  go_wp2_with fail
  have HS := Lib.hid (Kd.set6 (u0 := .int .i64 3) (u1 := .int .i64 0) (u2 := .string ⟨#[]⟩) (u3 := .slice none 0 0) (u4 := .slice none 0 0) (u5 := .slice none 0 0) HR2.out)
  have HB9 := Lib.hid (Kd.set6_below HB2.out (Nat.le_succ _) (.int .i64 3) (.int .i64 0) (.string ⟨#[]⟩) (.slice none 0 0) (.slice none 0 0) (.slice none 0 0))
  have HK9 := Lib.hid (fun B hB => set6_keep (w := w2) (b := w.heap.size + 1) (B := B) hB (.int .i64 3) (.int .i64 0) (.string ⟨#[]⟩) (.slice none 0 0) (.slice none 0 0) (.slice none 0 0))
  generalize ((((((w2.setCell ⟨w.heap.size + 1, 0, none⟩ (.int .i64 3)).setCell ⟨w.heap.size + 1, 1, none⟩ (.int .i64 0)).setCell ⟨w.heap.size + 1, 2, none⟩ (.string ⟨#[]⟩)).setCell ⟨w.heap.size + 1, 3, none⟩ (.slice none 0 0)).setCell ⟨w.heap.size + 1, 4, none⟩ (.slice none 0 0)).setCell ⟨w.heap.size + 1, 5, none⟩ (.slice none 0 0)) = w9 at *
  have r0 : w9.cell? ⟨w.heap.size + 1, 0, none⟩ = some (.int .i64 3) := cell_at HS.out 0
  have r1 : w9.cell? ⟨w.heap.size + 1, 1, none⟩ = some (.int .i64 0) := cell_at HS.out 1
  have r2 : w9.cell? ⟨w.heap.size + 1, 2, none⟩ = some (.string ⟨#[]⟩) := cell_at HS.out 2
  have r3 : w9.cell? ⟨w.heap.size + 1, 3, none⟩ = some (.slice none 0 0) := cell_at HS.out 3
  have r4 : w9.cell? ⟨w.heap.size + 1, 4, none⟩ = some (.slice none 0 0) := cell_at HS.out 4
  have r5 : w9.cell? ⟨w.heap.size + 1, 5, none⟩ = some (.slice none 0 0) := cell_at HS.out 5
  exact bodyPost_ret (v := .tuple #[.agg #[.int .i64 3, .int .i64 0, .string ⟨#[]⟩, .slice none 0 0, .slice none 0 0, .slice none 0 0], .int .i64 ((0 : Nat) : Int)]) (by simp [results, Tryz.results72, go_sem, r0, r1, r2, r3, r4, r5]) rfl (by rw [HV.out]; exact ans_some (inf := []) (n := 0) (p := 0) rfl rfl HB9.out (frRd_nil _ _) (by simp) (frTr_nil _ _) (frB_nil _ _))
set_option maxHeartbeats 3200000 in
set_option maxRecDepth 100000 in
theorem blockP4_any (d : Nat) (v : Value) (s : Tx) (u : List Tx) (w : World) (hr : Rd w v (s :: u)) (ht : tot (s :: u) ≤ 20000) (hk : kindOf E0 s = 4) (hre : restB s u = []) :
    Calls Tryz.prog 72 #[rdV (16 - d), v] w (BlockAns w (valB allE d s u) (er (valB allE d s u))) := by
  obtain ⟨ao, ca, rfl⟩ := hr.len
  have hsz : s.length ≤ 20000 := by have := tot_mem (s :: u) s (List.mem_cons_self ..); omega
  have HRd := Lib.hid (fun w' (h : Below w.heap.size w w') => hr.below h)
  have HO : Hid (∀ w', Calls Tryz.prog 36 #[.string (S s)] w' (NumK w' 4)) := Lib.hid (fun w' => by
    have h := told11.of (S s) w' (by rw [S_size]; exact hsz)
    rw [S_list, hk] at h
    exact h)
  unfold NumK at HO
  obtain ⟨r, hrr⟩ : ∃ r, 16 - d = r := ⟨_, rfl⟩
  have HC := Lib.hid (fun w' (h : Rd w' (.slice ao (s :: u).length ca) (s :: u)) => fenceB_any _ s u w' h ht hk hre)
  obtain ⟨b, hb⟩ : ∃ b, Bk.mk 4 0 (trim (s.drop (run 96 s))) (fenceL (run 96 s) u).1 [] [] = b := ⟨_, rfl⟩
  have HV : Hid (valB allE d s u = some b) := Lib.hid (by rw [val4 hk, ← hb])
  simp only [hb] at HC
  rw [hrr]
  unfold rdV
  generalize valB allE d s u = O at *
  unfold BlkF at HC
  clear hb hk hre hr ht hrr hsz
  have HA0 := alloc_at (alloc_new w (.cells #[.int .i64 (r : Nat)] 64)) (.cells #[.int .i64 0, .int .i64 0, .string ⟨#[]⟩, .slice none 0 0, .slice none 0 0, .slice none 0 0] 42)
  have HA2 : Hid ((((w.alloc (.cells #[.int .i64 (r : Nat)] 64)).alloc (.cells #[.int .i64 0, .int .i64 0, .string ⟨#[]⟩, .slice none 0 0, .slice none 0 0, .slice none 0 0] 42)).heap[(w.alloc (.cells #[.int .i64 (r : Nat)] 64)).heap.size]?) = some (.cells #[.int .i64 0, .int .i64 0, .string ⟨#[]⟩, .slice none 0 0, .slice none 0 0, .slice none 0 0] 42 (0, 0))) := Lib.hid (alloc_new _ _)
  have hz1 : (w.alloc (.cells #[.int .i64 (r : Nat)] 64)).heap.size = w.heap.size + 1 := by simp
  rw [hz1] at HA2
  have HB1 := Lib.hid (((Below.refl w.heap.size w).alloc (Nat.le_refl _) (.cells #[.int .i64 (r : Nat)] 64)).alloc (by simp) (.cells #[.int .i64 0, .int .i64 0, .string ⟨#[]⟩, .slice none 0 0, .slice none 0 0, .slice none 0 0] 42))
  have HA1 := Lib.hid HA0
  clear HA0
  go_enter Tryz.func72, Tryz.ntmps72
  go_upto_region 1 with fail
  try rw [hz1]
  clear hz1
  generalize (w.alloc (.cells #[.int .i64 (r : Nat)] 64)).alloc (.cells #[.int .i64 0, .int .i64 0, .string ⟨#[]⟩, .slice none 0 0, .slice none 0 0, .slice none 0 0] 42) = w1 at *
  obtain ⟨b0, o0, hbo, c0⟩ := Bt.Rd.at (HRd.out w1 HB1.out) 0 (by simp)
  subst hbo
  simp only [List.getElem_cons_zero, Nat.add_zero] at c0
  have h0i : (0 : Int) < ((s :: u).length : Int) := by simp only [List.length_cons]; omega
  go_wp2_with fail
  refine (HO.out _).mono ?_
  rintro e w2 ⟨rfl, b2⟩
  have HR2 : Hid (w2.heap[w.heap.size + 1]? = some (.cells #[.int .i64 0, .int .i64 0, .string ⟨#[]⟩, .slice none 0 0, .slice none 0 0, .slice none 0 0] 42 (0, 0))) := Lib.hid ((b2.block _ (lt_of_at HA2.out)).trans HA2.out)
  have HX2 : Hid (w2.heap[w.heap.size]? = some (.cells #[.int .i64 (r : Nat)] 64 (0, 0))) := Lib.hid ((b2.block _ (lt_of_at HA1.out)).trans HA1.out)
  have HB2 := Lib.hid (HB1.out.trans (b2.mono HB1.out.size))
  have HRd2 := Lib.hid (HRd.out w2 HB2.out)
  clear b2 HO HA1 HA2 HB1 c0
  have HCd := Lib.hid (HC.out w2 HRd2.out)
  generalize S s = ss at *
  go_wp2_with fail
  refine HCd.out.mono ?_
  rintro e w3 ⟨vl, vs', vk, rfl, b3, hkb⟩
  have hkb0 := hkb w3 (Keep.refl _ _)
  obtain ⟨al, cl, hvl⟩ := hkb0.rd.len
  obtain ⟨as', cs, hvs⟩ := hkb0.sp.len
  obtain ⟨ak, ck, hvk⟩ := hkb0.tr.len
  simp only at hvl hvs hvk
  subst hvl; subst hvs; subst hvk
  have HKB := Lib.hid hkb
  have HR3 : Hid (w3.heap[w.heap.size + 1]? = some (.cells #[.int .i64 0, .int .i64 0, .string ⟨#[]⟩, .slice none 0 0, .slice none 0 0, .slice none 0 0] 42 (0, 0))) := Lib.hid ((b3.block _ (lt_of_at HR2.out)).trans HR2.out)
  have HB3 := Lib.hid (HB2.out.trans (b3.mono HB2.out.size))
  have hlt2 := lt_of_at HR2.out
  have hz2 := HB2.out.size
  clear b3 hkb hkb0 HR2 HX2 HB2
  have k0 : w3.cell? ⟨w.heap.size + 1, 0, none⟩ = some (.int .i64 0) := cell_at HR3.out 0
  have f0 : w3.frozen? ⟨w.heap.size + 1, 0, none⟩ = false := frozen_at HR3.out 0
  have k1 : w3.cell? ⟨w.heap.size + 1, 1, none⟩ = some (.int .i64 0) := cell_at HR3.out 1
  have f1 : w3.frozen? ⟨w.heap.size + 1, 1, none⟩ = false := frozen_at HR3.out 1
  have k2 : w3.cell? ⟨w.heap.size + 1, 2, none⟩ = some (.string ⟨#[]⟩) := cell_at HR3.out 2
  have f2 : w3.frozen? ⟨w.heap.size + 1, 2, none⟩ = false := frozen_at HR3.out 2
  have k3 : w3.cell? ⟨w.heap.size + 1, 3, none⟩ = some (.slice none 0 0) := cell_at HR3.out 3
  have f3 : w3.frozen? ⟨w.heap.size + 1, 3, none⟩ = false := frozen_at HR3.out 3
  have k4 : w3.cell? ⟨w.heap.size + 1, 4, none⟩ = some (.slice none 0 0) := cell_at HR3.out 4
  have f4 : w3.frozen? ⟨w.heap.size + 1, 4, none⟩ = false := frozen_at HR3.out 4
  have k5 : w3.cell? ⟨w.heap.size + 1, 5, none⟩ = some (.slice none 0 0) := cell_at HR3.out 5
  have f5 : w3.frozen? ⟨w.heap.size + 1, 5, none⟩ = false := frozen_at HR3.out 5
  go_wp2_with fail
  have HS := Lib.hid (Kd.set6 (u0 := .int .i64 b.kind) (u1 := .int .i64 b.level) (u2 := .string (S b.info)) (u3 := .slice al b.lines.length cl) (u4 := .slice as' b.spans.length cs) (u5 := .slice ak b.kids.length ck) HR3.out)
  have HB9 := Lib.hid (Kd.set6_below HB3.out (Nat.le_succ _) (.int .i64 b.kind) (.int .i64 b.level) (.string (S b.info)) (.slice al b.lines.length cl) (.slice as' b.spans.length cs) (.slice ak b.kids.length ck))
  have HK9 := Lib.hid (fun B hB => set6_keep (w := w3) (b := w.heap.size + 1) (B := B) hB (.int .i64 b.kind) (.int .i64 b.level) (.string (S b.info)) (.slice al b.lines.length cl) (.slice as' b.spans.length cs) (.slice ak b.kids.length ck))
  generalize ((((((w3.setCell ⟨w.heap.size + 1, 0, none⟩ (.int .i64 b.kind)).setCell ⟨w.heap.size + 1, 1, none⟩ (.int .i64 b.level)).setCell ⟨w.heap.size + 1, 2, none⟩ (.string (S b.info))).setCell ⟨w.heap.size + 1, 3, none⟩ (.slice al b.lines.length cl)).setCell ⟨w.heap.size + 1, 4, none⟩ (.slice as' b.spans.length cs)).setCell ⟨w.heap.size + 1, 5, none⟩ (.slice ak b.kids.length ck)) = w9 at *
  have r0 : w9.cell? ⟨w.heap.size + 1, 0, none⟩ = some (.int .i64 b.kind) := cell_at HS.out 0
  have r1 : w9.cell? ⟨w.heap.size + 1, 1, none⟩ = some (.int .i64 b.level) := cell_at HS.out 1
  have r2 : w9.cell? ⟨w.heap.size + 1, 2, none⟩ = some (.string (S b.info)) := cell_at HS.out 2
  have r3 : w9.cell? ⟨w.heap.size + 1, 3, none⟩ = some (.slice al b.lines.length cl) := cell_at HS.out 3
  have r4 : w9.cell? ⟨w.heap.size + 1, 4, none⟩ = some (.slice as' b.spans.length cs) := cell_at HS.out 4
  have r5 : w9.cell? ⟨w.heap.size + 1, 5, none⟩ = some (.slice ak b.kids.length ck) := cell_at HS.out 5
  exact bodyPost_ret (v := .tuple #[.agg #[.int .i64 b.kind, .int .i64 b.level, .string (S b.info), .slice al b.lines.length cl, .slice as' b.spans.length cs, .slice ak b.kids.length ck], .int .i64 ((0 : Nat) : Int)]) (by simp [results, Tryz.results72, go_sem, r0, r1, r2, r3, r4, r5]) rfl (by rw [HV.out]; exact ans_bz (o := some b) rfl HB9.out hz2 (HK9.out _ hlt2) HKB.out)
set_option maxHeartbeats 3200000 in
set_option maxRecDepth 100000 in
theorem blockP5_any (d : Nat) (HD : ContC d) (v : Value) (s : Tx) (u : List Tx) (w : World) (hr : Rd w v (s :: u)) (ht : tot (s :: u) ≤ 20000) (hk : kindOf E0 s = 5) (hre : restB s u = []) :
    Calls Tryz.prog 72 #[rdV (16 - d), v] w (BlockAns w (valB allE d s u) (er (valB allE d s u))) := by
  obtain ⟨ao, ca, rfl⟩ := hr.len
  have hsz : s.length ≤ 20000 := by have := tot_mem (s :: u) s (List.mem_cons_self ..); omega
  have HRd := Lib.hid (fun w' (h : Below w.heap.size w w') => hr.below h)
  have HO : Hid (∀ w', Calls Tryz.prog 36 #[.string (S s)] w' (NumK w' 5)) := Lib.hid (fun w' => by
    have h := told11.of (S s) w' (by rw [S_size]; exact hsz)
    rw [S_list, hk] at h
    exact h)
  unfold NumK at HO
  obtain ⟨r, hrr⟩ : ∃ r, 16 - d = r := ⟨_, rfl⟩
  have hsp : (spanK E0 5 (s :: u)).1 = s :: u := span_whole (by rw [← rest5 hk]; exact hre)
  have hq : (s :: u).map uqT = quoted s u := by
    unfold quoted
    rw [hsp]
    refine List.map_congr_left (fun x hx => ?_)
    have : kindOf E0 x = 5 := span_kind 5 (s :: u) x (by rw [hsp]; exact hx)
    exact if_pos this
  have HQ := Lib.hid (fun w' (h : Rd w' (.slice ao (s :: u).length ca) (s :: u)) => quotedP_any _ (s :: u) w' h ht)
  have htq : tot (quoted s u) ≤ 20000 := by
    unfold quoted
    rw [hsp]
    exact Nat.le_trans (tot_map unquote unq_len (s :: u)) ht
  simp only [hq] at HQ
  have HC := Lib.hid (fun v' w' (h : Rd w' v' (quoted s u)) => HD 5 v' (quoted s u) w' h htq)
  have hv : valB allE d s u = inD d 5 (quoted s u) := by rw [val5 hk]; rfl
  rw [hv]
  rw [hrr] at HC
  rw [hrr]
  unfold rdV at *
  generalize inD d 5 (quoted s u) = o at *
  generalize quoted s u = tx at *
  unfold RowAns at HQ
  unfold BlockAns at HC
  clear hsp hq hk hre hr ht hrr hsz htq hv HD
  have HA0 := alloc_at (alloc_new w (.cells #[.int .i64 (r : Nat)] 64)) (.cells #[.int .i64 0, .int .i64 0, .string ⟨#[]⟩, .slice none 0 0, .slice none 0 0, .slice none 0 0] 42)
  have HA2 : Hid ((((w.alloc (.cells #[.int .i64 (r : Nat)] 64)).alloc (.cells #[.int .i64 0, .int .i64 0, .string ⟨#[]⟩, .slice none 0 0, .slice none 0 0, .slice none 0 0] 42)).heap[(w.alloc (.cells #[.int .i64 (r : Nat)] 64)).heap.size]?) = some (.cells #[.int .i64 0, .int .i64 0, .string ⟨#[]⟩, .slice none 0 0, .slice none 0 0, .slice none 0 0] 42 (0, 0))) := Lib.hid (alloc_new _ _)
  have hz1 : (w.alloc (.cells #[.int .i64 (r : Nat)] 64)).heap.size = w.heap.size + 1 := by simp
  rw [hz1] at HA2
  have HB1 := Lib.hid (((Below.refl w.heap.size w).alloc (Nat.le_refl _) (.cells #[.int .i64 (r : Nat)] 64)).alloc (by simp) (.cells #[.int .i64 0, .int .i64 0, .string ⟨#[]⟩, .slice none 0 0, .slice none 0 0, .slice none 0 0] 42))
  have HA1 := Lib.hid HA0
  clear HA0
  go_enter Tryz.func72, Tryz.ntmps72
  go_upto_region 1 with fail
  try rw [hz1]
  clear hz1
  generalize (w.alloc (.cells #[.int .i64 (r : Nat)] 64)).alloc (.cells #[.int .i64 0, .int .i64 0, .string ⟨#[]⟩, .slice none 0 0, .slice none 0 0, .slice none 0 0] 42) = w1 at *
  obtain ⟨b0, o0, hbo, c0⟩ := Bt.Rd.at (HRd.out w1 HB1.out) 0 (by simp)
  subst hbo
  simp only [List.getElem_cons_zero, Nat.add_zero] at c0
  have h0i : (0 : Int) < ((s :: u).length : Int) := by simp only [List.length_cons]; omega
  go_wp2_with fail
  refine (HO.out _).mono ?_
  rintro e w2 ⟨rfl, b2⟩
  have HR2 : Hid (w2.heap[w.heap.size + 1]? = some (.cells #[.int .i64 0, .int .i64 0, .string ⟨#[]⟩, .slice none 0 0, .slice none 0 0, .slice none 0 0] 42 (0, 0))) := Lib.hid ((b2.block _ (lt_of_at HA2.out)).trans HA2.out)
  have HX2 : Hid (w2.heap[w.heap.size]? = some (.cells #[.int .i64 (r : Nat)] 64 (0, 0))) := Lib.hid ((b2.block _ (lt_of_at HA1.out)).trans HA1.out)
  have HB2 := Lib.hid (HB1.out.trans (b2.mono HB1.out.size))
  have HRd2 := Lib.hid (HRd.out w2 HB2.out)
  clear b2 HO HA1 HA2 HB1 c0
  have HQ2 := Lib.hid (fun w' (hb : Below w2.heap.size w2 w') => HQ.out w' (HRd2.out.below hb))
  have HS : Hid (∀ W : World, Keep (fun k => k = w.heap.size + 1) w2 W → W.cell? ⟨w.heap.size, 0, none⟩ = some (.int .i64 (r : Nat))) := Lib.hid (fun W hW => cell_at (hW.at HX2.out (by omega)) 0)
  have HS6 : Hid (∀ (W : World) (u0 u1 u2 u3 u4 u5 : Value), Keep (fun k => k = w.heap.size + 1) w2 W → ((((((W.setCell ⟨w.heap.size + 1, 0, none⟩ u0).setCell ⟨w.heap.size + 1, 1, none⟩ u1).setCell ⟨w.heap.size + 1, 2, none⟩ u2).setCell ⟨w.heap.size + 1, 3, none⟩ u3).setCell ⟨w.heap.size + 1, 4, none⟩ u4).setCell ⟨w.heap.size + 1, 5, none⟩ u5).cell? ⟨w.heap.size, 0, none⟩ = some (.int .i64 (r : Nat))) := Lib.hid (fun W u0 u1 u2 u3 u4 u5 h => HS.out _ ((((((h.setCell (p := ⟨w.heap.size + 1, 0, none⟩) (Or.inl rfl) u0).setCell (p := ⟨w.heap.size + 1, 1, none⟩) (Or.inl rfl) u1).setCell (p := ⟨w.heap.size + 1, 2, none⟩) (Or.inl rfl) u2).setCell (p := ⟨w.heap.size + 1, 3, none⟩) (Or.inl rfl) u3).setCell (p := ⟨w.heap.size + 1, 4, none⟩) (Or.inl rfl) u4).setCell (p := ⟨w.heap.size + 1, 5, none⟩) (Or.inl rfl) u5))
  have s0 := HS.out w2 (Keep.refl _ _)
  have hlt2 := lt_of_at HR2.out
  have hz2 := HB2.out.size
  generalize S s = ss at *
  go_upto_region 9 with fail
  go_region_held3 (fun W => W.cell? ⟨w.heap.size, 0, none⟩ = some (.int .i64 (r : Nat)))
    (first | with_reducible exact HS.out _ (by first | exact Keep.refl _ _ | exact (Keep.refl _ _).drew | exact (Keep.trans (Keep.refl _ _).drew (Keep.of_below (by assumption))) | exact (Keep.trans (Keep.trans (Keep.refl _ _).drew (Keep.of_below (by assumption))) (Keep.of_below (by assumption)))) | with_reducible exact HS6.out _ _ _ _ _ _ _ (Keep.trans (Keep.trans (Keep.refl _ _).drew (Keep.of_below (by assumption))) (Keep.of_below (by assumption))))
    (first
      | (go_at_call 109; refine (HQ2.out _ ((Below.refl _ _).drew)).mono ?_; rintro e w7 ⟨vi, rfl, hoi, b7⟩; have HRi := Lib.hid (OutS.rd hoi); obtain ⟨ai, ci, hvi⟩ := (OutS.rd hoi).len; subst hvi; clear hoi)
      | (go_at_call 108; refine (HC.out _ _ HRi.out).mono ?_; rintro e w8 ⟨vl, vs', vk, rfl, b8, hkb⟩; have hkb0 := hkb w8 (Keep.refl _ _); obtain ⟨al, cl, hvl⟩ := hkb0.rd.len; obtain ⟨as', cs, hvs⟩ := hkb0.sp.len; obtain ⟨ak, ck, hvk⟩ := hkb0.tr.len; simp only at hvl hvs hvk; subst hvl; subst hvs; subst hvk; have HKB := Lib.hid hkb; clear hkb hkb0; have HR8 : Hid (w8.heap[w.heap.size + 1]? = some (.cells #[.int .i64 0, .int .i64 0, .string ⟨#[]⟩, .slice none 0 0, .slice none 0 0, .slice none 0 0] 42 (0, 0))) := Lib.hid ((b8.block _ (Nat.lt_of_lt_of_le hlt2 b7.size)).trans ((b7.block _ hlt2).trans HR2.out)); have z0 : w8.cell? ⟨w.heap.size + 1, 0, none⟩ = some (.int .i64 0) := cell_at HR8.out 0; have y0 : w8.frozen? ⟨w.heap.size + 1, 0, none⟩ = false := frozen_at HR8.out 0; have z1 : w8.cell? ⟨w.heap.size + 1, 1, none⟩ = some (.int .i64 0) := cell_at HR8.out 1; have y1 : w8.frozen? ⟨w.heap.size + 1, 1, none⟩ = false := frozen_at HR8.out 1; have z2 : w8.cell? ⟨w.heap.size + 1, 2, none⟩ = some (.string ⟨#[]⟩) := cell_at HR8.out 2; have y2 : w8.frozen? ⟨w.heap.size + 1, 2, none⟩ = false := frozen_at HR8.out 2; have z3 : w8.cell? ⟨w.heap.size + 1, 3, none⟩ = some (.slice none 0 0) := cell_at HR8.out 3; have y3 : w8.frozen? ⟨w.heap.size + 1, 3, none⟩ = false := frozen_at HR8.out 3; have z4 : w8.cell? ⟨w.heap.size + 1, 4, none⟩ = some (.slice none 0 0) := cell_at HR8.out 4; have y4 : w8.frozen? ⟨w.heap.size + 1, 4, none⟩ = false := frozen_at HR8.out 4; have z5 : w8.cell? ⟨w.heap.size + 1, 5, none⟩ = some (.slice none 0 0) := cell_at HR8.out 5; have y5 : w8.frozen? ⟨w.heap.size + 1, 5, none⟩ = false := frozen_at HR8.out 5))
  have h27 : w2.heap.size ≤ w7.heap.size := b7.size
  have HB8 := Lib.hid (HB2.out.trans ((((Below.refl w2.heap.size w2).drew.trans b7).trans (b8.mono h27)).mono hz2))
  go_wp2_with fail
  have HS := Lib.hid (Kd.set6 (u0 := .int .i64 (bz o).kind) (u1 := .int .i64 (bz o).level) (u2 := .string (S (bz o).info)) (u3 := .slice al (bz o).lines.length cl) (u4 := .slice as' (bz o).spans.length cs) (u5 := .slice ak (bz o).kids.length ck) HR8.out)
  have HB9 := Lib.hid (Kd.set6_below HB8.out (Nat.le_succ _) (.int .i64 (bz o).kind) (.int .i64 (bz o).level) (.string (S (bz o).info)) (.slice al (bz o).lines.length cl) (.slice as' (bz o).spans.length cs) (.slice ak (bz o).kids.length ck))
  have HK9 := Lib.hid (fun B hB => set6_keep (w := w8) (b := w.heap.size + 1) (B := B) hB (.int .i64 (bz o).kind) (.int .i64 (bz o).level) (.string (S (bz o).info)) (.slice al (bz o).lines.length cl) (.slice as' (bz o).spans.length cs) (.slice ak (bz o).kids.length ck))
  generalize ((((((w8.setCell ⟨w.heap.size + 1, 0, none⟩ (.int .i64 (bz o).kind)).setCell ⟨w.heap.size + 1, 1, none⟩ (.int .i64 (bz o).level)).setCell ⟨w.heap.size + 1, 2, none⟩ (.string (S (bz o).info))).setCell ⟨w.heap.size + 1, 3, none⟩ (.slice al (bz o).lines.length cl)).setCell ⟨w.heap.size + 1, 4, none⟩ (.slice as' (bz o).spans.length cs)).setCell ⟨w.heap.size + 1, 5, none⟩ (.slice ak (bz o).kids.length ck)) = w9 at *
  have r0 : w9.cell? ⟨w.heap.size + 1, 0, none⟩ = some (.int .i64 (bz o).kind) := cell_at HS.out 0
  have r1 : w9.cell? ⟨w.heap.size + 1, 1, none⟩ = some (.int .i64 (bz o).level) := cell_at HS.out 1
  have r2 : w9.cell? ⟨w.heap.size + 1, 2, none⟩ = some (.string (S (bz o).info)) := cell_at HS.out 2
  have r3 : w9.cell? ⟨w.heap.size + 1, 3, none⟩ = some (.slice al (bz o).lines.length cl) := cell_at HS.out 3
  have r4 : w9.cell? ⟨w.heap.size + 1, 4, none⟩ = some (.slice as' (bz o).spans.length cs) := cell_at HS.out 4
  have r5 : w9.cell? ⟨w.heap.size + 1, 5, none⟩ = some (.slice ak (bz o).kids.length ck) := cell_at HS.out 5
  exact bodyPost_ret (v := .tuple #[.agg #[.int .i64 (bz o).kind, .int .i64 (bz o).level, .string (S (bz o).info), .slice al (bz o).lines.length cl, .slice as' (bz o).spans.length cs, .slice ak (bz o).kids.length ck], .int .i64 (er o : Nat)]) (by simp [results, Tryz.results72, go_sem, r0, r1, r2, r3, r4, r5]) rfl (ans_bz (o := o) rfl HB9.out (Nat.le_trans hz2 h27) (HK9.out _ (Nat.lt_of_lt_of_le hlt2 h27)) HKB.out)
set_option maxHeartbeats 3200000 in
set_option maxRecDepth 100000 in
theorem blockP6_any (d : Nat) (HL : ListC d) (v : Value) (s : Tx) (u : List Tx) (w : World) (hr : Rd w v (s :: u)) (ht : tot (s :: u) ≤ 20000) (hk : kindOf E0 s = 6) (hre : restB s u = []) :
    Calls Tryz.prog 72 #[rdV (16 - d), v] w (BlockAns w (valB allE d s u) (er (valB allE d s u))) := by
  obtain ⟨ao, ca, rfl⟩ := hr.len
  have hsz : s.length ≤ 20000 := by have := tot_mem (s :: u) s (List.mem_cons_self ..); omega
  have HRd := Lib.hid (fun w' (h : Below w.heap.size w w') => hr.below h)
  have HO : Hid (∀ w', Calls Tryz.prog 36 #[.string (S s)] w' (NumK w' 6)) := Lib.hid (fun w' => by
    have h := told11.of (S s) w' (by rw [S_size]; exact hsz)
    rw [S_list, hk] at h
    exact h)
  unfold NumK at HO
  obtain ⟨r, hrr⟩ : ∃ r, 16 - d = r := ⟨_, rfl⟩
  have HC := Lib.hid (fun w' (h : Rd w' (.slice ao (s :: u).length ca) (s :: u)) => HL _ s u w' h ht hk)
  rw [hrr] at HC
  rw [hrr]
  unfold rdV at *
  unfold BlockAns at HC
  generalize valB allE d s u = o at *
  clear hk hre hr ht hrr hsz HL
  have HA0 := alloc_at (alloc_new w (.cells #[.int .i64 (r : Nat)] 64)) (.cells #[.int .i64 0, .int .i64 0, .string ⟨#[]⟩, .slice none 0 0, .slice none 0 0, .slice none 0 0] 42)
  have HA2 : Hid ((((w.alloc (.cells #[.int .i64 (r : Nat)] 64)).alloc (.cells #[.int .i64 0, .int .i64 0, .string ⟨#[]⟩, .slice none 0 0, .slice none 0 0, .slice none 0 0] 42)).heap[(w.alloc (.cells #[.int .i64 (r : Nat)] 64)).heap.size]?) = some (.cells #[.int .i64 0, .int .i64 0, .string ⟨#[]⟩, .slice none 0 0, .slice none 0 0, .slice none 0 0] 42 (0, 0))) := Lib.hid (alloc_new _ _)
  have hz1 : (w.alloc (.cells #[.int .i64 (r : Nat)] 64)).heap.size = w.heap.size + 1 := by simp
  rw [hz1] at HA2
  have HB1 := Lib.hid (((Below.refl w.heap.size w).alloc (Nat.le_refl _) (.cells #[.int .i64 (r : Nat)] 64)).alloc (by simp) (.cells #[.int .i64 0, .int .i64 0, .string ⟨#[]⟩, .slice none 0 0, .slice none 0 0, .slice none 0 0] 42))
  have HA1 := Lib.hid HA0
  clear HA0
  go_enter Tryz.func72, Tryz.ntmps72
  go_upto_region 1 with fail
  try rw [hz1]
  clear hz1
  generalize (w.alloc (.cells #[.int .i64 (r : Nat)] 64)).alloc (.cells #[.int .i64 0, .int .i64 0, .string ⟨#[]⟩, .slice none 0 0, .slice none 0 0, .slice none 0 0] 42) = w1 at *
  obtain ⟨b0, o0, hbo, c0⟩ := Bt.Rd.at (HRd.out w1 HB1.out) 0 (by simp)
  subst hbo
  simp only [List.getElem_cons_zero, Nat.add_zero] at c0
  have h0i : (0 : Int) < ((s :: u).length : Int) := by simp only [List.length_cons]; omega
  go_wp2_with fail
  refine (HO.out _).mono ?_
  rintro e w2 ⟨rfl, b2⟩
  have HR2 : Hid (w2.heap[w.heap.size + 1]? = some (.cells #[.int .i64 0, .int .i64 0, .string ⟨#[]⟩, .slice none 0 0, .slice none 0 0, .slice none 0 0] 42 (0, 0))) := Lib.hid ((b2.block _ (lt_of_at HA2.out)).trans HA2.out)
  have HX2 : Hid (w2.heap[w.heap.size]? = some (.cells #[.int .i64 (r : Nat)] 64 (0, 0))) := Lib.hid ((b2.block _ (lt_of_at HA1.out)).trans HA1.out)
  have HB2 := Lib.hid (HB1.out.trans (b2.mono HB1.out.size))
  have HRd2 := Lib.hid (HRd.out w2 HB2.out)
  clear b2 HO HA1 HA2 HB1 c0
  have HCd := Lib.hid (HC.out w2 HRd2.out)
  have s0 : w2.cell? ⟨w.heap.size, 0, none⟩ = some (.int .i64 (r : Nat)) := cell_at HX2.out 0
  generalize S s = ss at *
  go_wp2_with fail
  refine HCd.out.mono ?_
  rintro e w3 ⟨vl, vs', vk, rfl, b3, hkb⟩
  have hkb0 := hkb w3 (Keep.refl _ _)
  obtain ⟨al, cl, hvl⟩ := hkb0.rd.len
  obtain ⟨as', cs, hvs⟩ := hkb0.sp.len
  obtain ⟨ak, ck, hvk⟩ := hkb0.tr.len
  simp only at hvl hvs hvk
  subst hvl; subst hvs; subst hvk
  have HKB := Lib.hid hkb
  have HR3 : Hid (w3.heap[w.heap.size + 1]? = some (.cells #[.int .i64 0, .int .i64 0, .string ⟨#[]⟩, .slice none 0 0, .slice none 0 0, .slice none 0 0] 42 (0, 0))) := Lib.hid ((b3.block _ (lt_of_at HR2.out)).trans HR2.out)
  have HB3 := Lib.hid (HB2.out.trans (b3.mono HB2.out.size))
  have hlt2 := lt_of_at HR2.out
  have hz2 := HB2.out.size
  clear b3 hkb hkb0 HR2 HX2 HB2
  have k0 : w3.cell? ⟨w.heap.size + 1, 0, none⟩ = some (.int .i64 0) := cell_at HR3.out 0
  have f0 : w3.frozen? ⟨w.heap.size + 1, 0, none⟩ = false := frozen_at HR3.out 0
  have k1 : w3.cell? ⟨w.heap.size + 1, 1, none⟩ = some (.int .i64 0) := cell_at HR3.out 1
  have f1 : w3.frozen? ⟨w.heap.size + 1, 1, none⟩ = false := frozen_at HR3.out 1
  have k2 : w3.cell? ⟨w.heap.size + 1, 2, none⟩ = some (.string ⟨#[]⟩) := cell_at HR3.out 2
  have f2 : w3.frozen? ⟨w.heap.size + 1, 2, none⟩ = false := frozen_at HR3.out 2
  have k3 : w3.cell? ⟨w.heap.size + 1, 3, none⟩ = some (.slice none 0 0) := cell_at HR3.out 3
  have f3 : w3.frozen? ⟨w.heap.size + 1, 3, none⟩ = false := frozen_at HR3.out 3
  have k4 : w3.cell? ⟨w.heap.size + 1, 4, none⟩ = some (.slice none 0 0) := cell_at HR3.out 4
  have f4 : w3.frozen? ⟨w.heap.size + 1, 4, none⟩ = false := frozen_at HR3.out 4
  have k5 : w3.cell? ⟨w.heap.size + 1, 5, none⟩ = some (.slice none 0 0) := cell_at HR3.out 5
  have f5 : w3.frozen? ⟨w.heap.size + 1, 5, none⟩ = false := frozen_at HR3.out 5
  go_wp2_with fail
  have HS := Lib.hid (Kd.set6 (u0 := .int .i64 (bz o).kind) (u1 := .int .i64 (bz o).level) (u2 := .string (S (bz o).info)) (u3 := .slice al (bz o).lines.length cl) (u4 := .slice as' (bz o).spans.length cs) (u5 := .slice ak (bz o).kids.length ck) HR3.out)
  have HB9 := Lib.hid (Kd.set6_below HB3.out (Nat.le_succ _) (.int .i64 (bz o).kind) (.int .i64 (bz o).level) (.string (S (bz o).info)) (.slice al (bz o).lines.length cl) (.slice as' (bz o).spans.length cs) (.slice ak (bz o).kids.length ck))
  have HK9 := Lib.hid (fun B hB => set6_keep (w := w3) (b := w.heap.size + 1) (B := B) hB (.int .i64 (bz o).kind) (.int .i64 (bz o).level) (.string (S (bz o).info)) (.slice al (bz o).lines.length cl) (.slice as' (bz o).spans.length cs) (.slice ak (bz o).kids.length ck))
  generalize ((((((w3.setCell ⟨w.heap.size + 1, 0, none⟩ (.int .i64 (bz o).kind)).setCell ⟨w.heap.size + 1, 1, none⟩ (.int .i64 (bz o).level)).setCell ⟨w.heap.size + 1, 2, none⟩ (.string (S (bz o).info))).setCell ⟨w.heap.size + 1, 3, none⟩ (.slice al (bz o).lines.length cl)).setCell ⟨w.heap.size + 1, 4, none⟩ (.slice as' (bz o).spans.length cs)).setCell ⟨w.heap.size + 1, 5, none⟩ (.slice ak (bz o).kids.length ck)) = w9 at *
  have r0 : w9.cell? ⟨w.heap.size + 1, 0, none⟩ = some (.int .i64 (bz o).kind) := cell_at HS.out 0
  have r1 : w9.cell? ⟨w.heap.size + 1, 1, none⟩ = some (.int .i64 (bz o).level) := cell_at HS.out 1
  have r2 : w9.cell? ⟨w.heap.size + 1, 2, none⟩ = some (.string (S (bz o).info)) := cell_at HS.out 2
  have r3 : w9.cell? ⟨w.heap.size + 1, 3, none⟩ = some (.slice al (bz o).lines.length cl) := cell_at HS.out 3
  have r4 : w9.cell? ⟨w.heap.size + 1, 4, none⟩ = some (.slice as' (bz o).spans.length cs) := cell_at HS.out 4
  have r5 : w9.cell? ⟨w.heap.size + 1, 5, none⟩ = some (.slice ak (bz o).kids.length ck) := cell_at HS.out 5
  exact bodyPost_ret (v := .tuple #[.agg #[.int .i64 (bz o).kind, .int .i64 (bz o).level, .string (S (bz o).info), .slice al (bz o).lines.length cl, .slice as' (bz o).spans.length cs, .slice ak (bz o).kids.length ck], .int .i64 (er o : Nat)]) (by simp [results, Tryz.results72, go_sem, r0, r1, r2, r3, r4, r5]) rfl (ans_bz (o := o) rfl HB9.out hz2 (HK9.out _ hlt2) HKB.out)
set_option maxHeartbeats 3200000 in
set_option maxRecDepth 100000 in
theorem blockP7_any (d : Nat) (v : Value) (s : Tx) (u : List Tx) (w : World) (hr : Rd w v (s :: u)) (ht : tot (s :: u) ≤ 20000) (hk : kindOf E0 s = 7) (hre : restB s u = []) :
    Calls Tryz.prog 72 #[rdV (16 - d), v] w (BlockAns w (valB allE d s u) (er (valB allE d s u))) := by
  obtain ⟨ao, ca, rfl⟩ := hr.len
  have hsz : s.length ≤ 20000 := by have := tot_mem (s :: u) s (List.mem_cons_self ..); omega
  have HRd := Lib.hid (fun w' (h : Below w.heap.size w w') => hr.below h)
  have HO : Hid (∀ w', Calls Tryz.prog 36 #[.string (S s)] w' (NumK w' 7)) := Lib.hid (fun w' => by
    have h := told11.of (S s) w' (by rw [S_size]; exact hsz)
    rw [S_list, hk] at h
    exact h)
  unfold NumK at HO
  obtain ⟨r, hrr⟩ : ∃ r, 16 - d = r := ⟨_, rfl⟩
  obtain ⟨p, hp⟩ := kd7 hk
  have HC := Lib.hid (fun w' => defineG_any (S s) (by rw [S_size]; omega) w')
  have hdf : dfB s = .mk 8 0 p.1 [p.2] [] [] := by unfold Kd.dfB; rw [if_pos hk, hp]
  simp only [S_list, hdf] at HC
  obtain ⟨b, hb⟩ : ∃ b, Bk.mk 8 0 p.1 [p.2] [] [] = b := ⟨_, rfl⟩
  have HV : Hid (valB allE d s u = some b) := Lib.hid (by rw [val7 hk, hp, Option.map_some, ← hb])
  simp only [hb] at HC
  rw [hrr]
  unfold rdV
  generalize valB allE d s u = O at *
  unfold BlkF at HC
  clear hb hk hre hr ht hrr hsz hdf hp
  have HA0 := alloc_at (alloc_new w (.cells #[.int .i64 (r : Nat)] 64)) (.cells #[.int .i64 0, .int .i64 0, .string ⟨#[]⟩, .slice none 0 0, .slice none 0 0, .slice none 0 0] 42)
  have HA2 : Hid ((((w.alloc (.cells #[.int .i64 (r : Nat)] 64)).alloc (.cells #[.int .i64 0, .int .i64 0, .string ⟨#[]⟩, .slice none 0 0, .slice none 0 0, .slice none 0 0] 42)).heap[(w.alloc (.cells #[.int .i64 (r : Nat)] 64)).heap.size]?) = some (.cells #[.int .i64 0, .int .i64 0, .string ⟨#[]⟩, .slice none 0 0, .slice none 0 0, .slice none 0 0] 42 (0, 0))) := Lib.hid (alloc_new _ _)
  have hz1 : (w.alloc (.cells #[.int .i64 (r : Nat)] 64)).heap.size = w.heap.size + 1 := by simp
  rw [hz1] at HA2
  have HB1 := Lib.hid (((Below.refl w.heap.size w).alloc (Nat.le_refl _) (.cells #[.int .i64 (r : Nat)] 64)).alloc (by simp) (.cells #[.int .i64 0, .int .i64 0, .string ⟨#[]⟩, .slice none 0 0, .slice none 0 0, .slice none 0 0] 42))
  have HA1 := Lib.hid HA0
  clear HA0
  go_enter Tryz.func72, Tryz.ntmps72
  go_upto_region 1 with fail
  try rw [hz1]
  clear hz1
  generalize (w.alloc (.cells #[.int .i64 (r : Nat)] 64)).alloc (.cells #[.int .i64 0, .int .i64 0, .string ⟨#[]⟩, .slice none 0 0, .slice none 0 0, .slice none 0 0] 42) = w1 at *
  obtain ⟨b0, o0, hbo, c0⟩ := Bt.Rd.at (HRd.out w1 HB1.out) 0 (by simp)
  subst hbo
  simp only [List.getElem_cons_zero, Nat.add_zero] at c0
  have h0i : (0 : Int) < ((s :: u).length : Int) := by simp only [List.length_cons]; omega
  go_wp2_with fail
  refine (HO.out _).mono ?_
  rintro e w2 ⟨rfl, b2⟩
  have HR2 : Hid (w2.heap[w.heap.size + 1]? = some (.cells #[.int .i64 0, .int .i64 0, .string ⟨#[]⟩, .slice none 0 0, .slice none 0 0, .slice none 0 0] 42 (0, 0))) := Lib.hid ((b2.block _ (lt_of_at HA2.out)).trans HA2.out)
  have HX2 : Hid (w2.heap[w.heap.size]? = some (.cells #[.int .i64 (r : Nat)] 64 (0, 0))) := Lib.hid ((b2.block _ (lt_of_at HA1.out)).trans HA1.out)
  have HB2 := Lib.hid (HB1.out.trans (b2.mono HB1.out.size))
  have HRd2 := Lib.hid (HRd.out w2 HB2.out)
  clear b2 HO HA1 HA2 HB1 c0
  obtain ⟨b0', o0', hbo, c0⟩ := Bt.Rd.at HRd2.out 0 (by simp)
  simp only [Option.some.injEq, Addr.mk.injEq, and_true] at hbo
  obtain ⟨rfl, rfl⟩ := hbo
  simp only [List.getElem_cons_zero, Nat.add_zero] at c0
  generalize S s = ss at *
  go_wp2_with fail
  refine (HC.out _).mono ?_
  rintro e w3 ⟨vl, vs', vk, rfl, b3, hkb⟩
  have hkb0 := hkb w3 (Keep.refl _ _)
  obtain ⟨al, cl, hvl⟩ := hkb0.rd.len
  obtain ⟨as', cs, hvs⟩ := hkb0.sp.len
  obtain ⟨ak, ck, hvk⟩ := hkb0.tr.len
  simp only at hvl hvs hvk
  subst hvl; subst hvs; subst hvk
  have HKB := Lib.hid hkb
  have HR3 : Hid (w3.heap[w.heap.size + 1]? = some (.cells #[.int .i64 0, .int .i64 0, .string ⟨#[]⟩, .slice none 0 0, .slice none 0 0, .slice none 0 0] 42 (0, 0))) := Lib.hid ((b3.block _ (lt_of_at HR2.out)).trans HR2.out)
  have HB3 := Lib.hid (HB2.out.trans (b3.mono HB2.out.size))
  have hlt2 := lt_of_at HR2.out
  have hz2 := HB2.out.size
  clear b3 hkb hkb0 HR2 HX2 HB2
  have k0 : w3.cell? ⟨w.heap.size + 1, 0, none⟩ = some (.int .i64 0) := cell_at HR3.out 0
  have f0 : w3.frozen? ⟨w.heap.size + 1, 0, none⟩ = false := frozen_at HR3.out 0
  have k1 : w3.cell? ⟨w.heap.size + 1, 1, none⟩ = some (.int .i64 0) := cell_at HR3.out 1
  have f1 : w3.frozen? ⟨w.heap.size + 1, 1, none⟩ = false := frozen_at HR3.out 1
  have k2 : w3.cell? ⟨w.heap.size + 1, 2, none⟩ = some (.string ⟨#[]⟩) := cell_at HR3.out 2
  have f2 : w3.frozen? ⟨w.heap.size + 1, 2, none⟩ = false := frozen_at HR3.out 2
  have k3 : w3.cell? ⟨w.heap.size + 1, 3, none⟩ = some (.slice none 0 0) := cell_at HR3.out 3
  have f3 : w3.frozen? ⟨w.heap.size + 1, 3, none⟩ = false := frozen_at HR3.out 3
  have k4 : w3.cell? ⟨w.heap.size + 1, 4, none⟩ = some (.slice none 0 0) := cell_at HR3.out 4
  have f4 : w3.frozen? ⟨w.heap.size + 1, 4, none⟩ = false := frozen_at HR3.out 4
  have k5 : w3.cell? ⟨w.heap.size + 1, 5, none⟩ = some (.slice none 0 0) := cell_at HR3.out 5
  have f5 : w3.frozen? ⟨w.heap.size + 1, 5, none⟩ = false := frozen_at HR3.out 5
  go_wp2_with fail
  have HS := Lib.hid (Kd.set6 (u0 := .int .i64 b.kind) (u1 := .int .i64 b.level) (u2 := .string (S b.info)) (u3 := .slice al b.lines.length cl) (u4 := .slice as' b.spans.length cs) (u5 := .slice ak b.kids.length ck) HR3.out)
  have HB9 := Lib.hid (Kd.set6_below HB3.out (Nat.le_succ _) (.int .i64 b.kind) (.int .i64 b.level) (.string (S b.info)) (.slice al b.lines.length cl) (.slice as' b.spans.length cs) (.slice ak b.kids.length ck))
  have HK9 := Lib.hid (fun B hB => set6_keep (w := w3) (b := w.heap.size + 1) (B := B) hB (.int .i64 b.kind) (.int .i64 b.level) (.string (S b.info)) (.slice al b.lines.length cl) (.slice as' b.spans.length cs) (.slice ak b.kids.length ck))
  generalize ((((((w3.setCell ⟨w.heap.size + 1, 0, none⟩ (.int .i64 b.kind)).setCell ⟨w.heap.size + 1, 1, none⟩ (.int .i64 b.level)).setCell ⟨w.heap.size + 1, 2, none⟩ (.string (S b.info))).setCell ⟨w.heap.size + 1, 3, none⟩ (.slice al b.lines.length cl)).setCell ⟨w.heap.size + 1, 4, none⟩ (.slice as' b.spans.length cs)).setCell ⟨w.heap.size + 1, 5, none⟩ (.slice ak b.kids.length ck)) = w9 at *
  have r0 : w9.cell? ⟨w.heap.size + 1, 0, none⟩ = some (.int .i64 b.kind) := cell_at HS.out 0
  have r1 : w9.cell? ⟨w.heap.size + 1, 1, none⟩ = some (.int .i64 b.level) := cell_at HS.out 1
  have r2 : w9.cell? ⟨w.heap.size + 1, 2, none⟩ = some (.string (S b.info)) := cell_at HS.out 2
  have r3 : w9.cell? ⟨w.heap.size + 1, 3, none⟩ = some (.slice al b.lines.length cl) := cell_at HS.out 3
  have r4 : w9.cell? ⟨w.heap.size + 1, 4, none⟩ = some (.slice as' b.spans.length cs) := cell_at HS.out 4
  have r5 : w9.cell? ⟨w.heap.size + 1, 5, none⟩ = some (.slice ak b.kids.length ck) := cell_at HS.out 5
  exact bodyPost_ret (v := .tuple #[.agg #[.int .i64 b.kind, .int .i64 b.level, .string (S b.info), .slice al b.lines.length cl, .slice as' b.spans.length cs, .slice ak b.kids.length ck], .int .i64 ((0 : Nat) : Int)]) (by simp [results, Tryz.results72, go_sem, r0, r1, r2, r3, r4, r5]) rfl (by rw [HV.out]; exact ans_bz (o := some b) rfl HB9.out hz2 (HK9.out _ hlt2) HKB.out)
set_option maxHeartbeats 3200000 in
set_option maxRecDepth 100000 in
theorem blockP8_any (d : Nat) (v : Value) (s : Tx) (u : List Tx) (w : World) (hr : Rd w v (s :: u)) (ht : tot (s :: u) ≤ 20000) (hk : kindOf E0 s = 8) (hre : restB s u = []) :
    Calls Tryz.prog 72 #[rdV (16 - d), v] w (BlockAns w (valB allE d s u) (er (valB allE d s u))) := by
  obtain ⟨ao, ca, rfl⟩ := hr.len
  have hsz : s.length ≤ 20000 := by have := tot_mem (s :: u) s (List.mem_cons_self ..); omega
  have HRd := Lib.hid (fun w' (h : Below w.heap.size w w') => hr.below h)
  have HO : Hid (∀ w', Calls Tryz.prog 36 #[.string (S s)] w' (NumK w' 8)) := Lib.hid (fun w' => by
    have h := told11.of (S s) w' (by rw [S_size]; exact hsz)
    rw [S_list, hk] at h
    exact h)
  unfold NumK at HO
  obtain ⟨r, hrr⟩ : ∃ r, 16 - d = r := ⟨_, rfl⟩
  have hsp : (spanK E0 8 (s :: u)).1 = s :: u := span_whole (by rw [← rest8 hk]; exact hre)
  have hpl : paraL s u = (s :: u).map trim := by unfold paraL; rw [hsp]
  have HC := Lib.hid (fun w' (h : Rd w' (.slice ao (s :: u).length ca) (s :: u)) => paraB_any _ (s :: u) w' h ht)
  obtain ⟨b, hb⟩ : ∃ b, Bk.mk 1 0 [] [] (parse (joinLF ((s :: u).map trim))) [] = b := ⟨_, rfl⟩
  have HV : Hid (valB allE d s u = some b) := Lib.hid (by rw [val8 hk, hpl, ← hb])
  simp only [hb] at HC
  rw [hrr]
  unfold rdV
  generalize valB allE d s u = O at *
  unfold BlkF at HC
  clear hb hk hre hr ht hrr hsz hsp hpl
  have HA0 := alloc_at (alloc_new w (.cells #[.int .i64 (r : Nat)] 64)) (.cells #[.int .i64 0, .int .i64 0, .string ⟨#[]⟩, .slice none 0 0, .slice none 0 0, .slice none 0 0] 42)
  have HA2 : Hid ((((w.alloc (.cells #[.int .i64 (r : Nat)] 64)).alloc (.cells #[.int .i64 0, .int .i64 0, .string ⟨#[]⟩, .slice none 0 0, .slice none 0 0, .slice none 0 0] 42)).heap[(w.alloc (.cells #[.int .i64 (r : Nat)] 64)).heap.size]?) = some (.cells #[.int .i64 0, .int .i64 0, .string ⟨#[]⟩, .slice none 0 0, .slice none 0 0, .slice none 0 0] 42 (0, 0))) := Lib.hid (alloc_new _ _)
  have hz1 : (w.alloc (.cells #[.int .i64 (r : Nat)] 64)).heap.size = w.heap.size + 1 := by simp
  rw [hz1] at HA2
  have HB1 := Lib.hid (((Below.refl w.heap.size w).alloc (Nat.le_refl _) (.cells #[.int .i64 (r : Nat)] 64)).alloc (by simp) (.cells #[.int .i64 0, .int .i64 0, .string ⟨#[]⟩, .slice none 0 0, .slice none 0 0, .slice none 0 0] 42))
  have HA1 := Lib.hid HA0
  clear HA0
  go_enter Tryz.func72, Tryz.ntmps72
  go_upto_region 1 with fail
  try rw [hz1]
  clear hz1
  generalize (w.alloc (.cells #[.int .i64 (r : Nat)] 64)).alloc (.cells #[.int .i64 0, .int .i64 0, .string ⟨#[]⟩, .slice none 0 0, .slice none 0 0, .slice none 0 0] 42) = w1 at *
  obtain ⟨b0, o0, hbo, c0⟩ := Bt.Rd.at (HRd.out w1 HB1.out) 0 (by simp)
  subst hbo
  simp only [List.getElem_cons_zero, Nat.add_zero] at c0
  have h0i : (0 : Int) < ((s :: u).length : Int) := by simp only [List.length_cons]; omega
  go_wp2_with fail
  refine (HO.out _).mono ?_
  rintro e w2 ⟨rfl, b2⟩
  have HR2 : Hid (w2.heap[w.heap.size + 1]? = some (.cells #[.int .i64 0, .int .i64 0, .string ⟨#[]⟩, .slice none 0 0, .slice none 0 0, .slice none 0 0] 42 (0, 0))) := Lib.hid ((b2.block _ (lt_of_at HA2.out)).trans HA2.out)
  have HX2 : Hid (w2.heap[w.heap.size]? = some (.cells #[.int .i64 (r : Nat)] 64 (0, 0))) := Lib.hid ((b2.block _ (lt_of_at HA1.out)).trans HA1.out)
  have HB2 := Lib.hid (HB1.out.trans (b2.mono HB1.out.size))
  have HRd2 := Lib.hid (HRd.out w2 HB2.out)
  clear b2 HO HA1 HA2 HB1 c0
  have HCd := Lib.hid (HC.out w2 HRd2.out)
  generalize S s = ss at *
  go_wp2_with fail
  refine HCd.out.mono ?_
  rintro e w3 ⟨vl, vs', vk, rfl, b3, hkb⟩
  have hkb0 := hkb w3 (Keep.refl _ _)
  obtain ⟨al, cl, hvl⟩ := hkb0.rd.len
  obtain ⟨as', cs, hvs⟩ := hkb0.sp.len
  obtain ⟨ak, ck, hvk⟩ := hkb0.tr.len
  simp only at hvl hvs hvk
  subst hvl; subst hvs; subst hvk
  have HKB := Lib.hid hkb
  have HR3 : Hid (w3.heap[w.heap.size + 1]? = some (.cells #[.int .i64 0, .int .i64 0, .string ⟨#[]⟩, .slice none 0 0, .slice none 0 0, .slice none 0 0] 42 (0, 0))) := Lib.hid ((b3.block _ (lt_of_at HR2.out)).trans HR2.out)
  have HB3 := Lib.hid (HB2.out.trans (b3.mono HB2.out.size))
  have hlt2 := lt_of_at HR2.out
  have hz2 := HB2.out.size
  clear b3 hkb hkb0 HR2 HX2 HB2
  have k0 : w3.cell? ⟨w.heap.size + 1, 0, none⟩ = some (.int .i64 0) := cell_at HR3.out 0
  have f0 : w3.frozen? ⟨w.heap.size + 1, 0, none⟩ = false := frozen_at HR3.out 0
  have k1 : w3.cell? ⟨w.heap.size + 1, 1, none⟩ = some (.int .i64 0) := cell_at HR3.out 1
  have f1 : w3.frozen? ⟨w.heap.size + 1, 1, none⟩ = false := frozen_at HR3.out 1
  have k2 : w3.cell? ⟨w.heap.size + 1, 2, none⟩ = some (.string ⟨#[]⟩) := cell_at HR3.out 2
  have f2 : w3.frozen? ⟨w.heap.size + 1, 2, none⟩ = false := frozen_at HR3.out 2
  have k3 : w3.cell? ⟨w.heap.size + 1, 3, none⟩ = some (.slice none 0 0) := cell_at HR3.out 3
  have f3 : w3.frozen? ⟨w.heap.size + 1, 3, none⟩ = false := frozen_at HR3.out 3
  have k4 : w3.cell? ⟨w.heap.size + 1, 4, none⟩ = some (.slice none 0 0) := cell_at HR3.out 4
  have f4 : w3.frozen? ⟨w.heap.size + 1, 4, none⟩ = false := frozen_at HR3.out 4
  have k5 : w3.cell? ⟨w.heap.size + 1, 5, none⟩ = some (.slice none 0 0) := cell_at HR3.out 5
  have f5 : w3.frozen? ⟨w.heap.size + 1, 5, none⟩ = false := frozen_at HR3.out 5
  go_wp2_with fail
  have HS := Lib.hid (Kd.set6 (u0 := .int .i64 b.kind) (u1 := .int .i64 b.level) (u2 := .string (S b.info)) (u3 := .slice al b.lines.length cl) (u4 := .slice as' b.spans.length cs) (u5 := .slice ak b.kids.length ck) HR3.out)
  have HB9 := Lib.hid (Kd.set6_below HB3.out (Nat.le_succ _) (.int .i64 b.kind) (.int .i64 b.level) (.string (S b.info)) (.slice al b.lines.length cl) (.slice as' b.spans.length cs) (.slice ak b.kids.length ck))
  have HK9 := Lib.hid (fun B hB => set6_keep (w := w3) (b := w.heap.size + 1) (B := B) hB (.int .i64 b.kind) (.int .i64 b.level) (.string (S b.info)) (.slice al b.lines.length cl) (.slice as' b.spans.length cs) (.slice ak b.kids.length ck))
  generalize ((((((w3.setCell ⟨w.heap.size + 1, 0, none⟩ (.int .i64 b.kind)).setCell ⟨w.heap.size + 1, 1, none⟩ (.int .i64 b.level)).setCell ⟨w.heap.size + 1, 2, none⟩ (.string (S b.info))).setCell ⟨w.heap.size + 1, 3, none⟩ (.slice al b.lines.length cl)).setCell ⟨w.heap.size + 1, 4, none⟩ (.slice as' b.spans.length cs)).setCell ⟨w.heap.size + 1, 5, none⟩ (.slice ak b.kids.length ck)) = w9 at *
  have r0 : w9.cell? ⟨w.heap.size + 1, 0, none⟩ = some (.int .i64 b.kind) := cell_at HS.out 0
  have r1 : w9.cell? ⟨w.heap.size + 1, 1, none⟩ = some (.int .i64 b.level) := cell_at HS.out 1
  have r2 : w9.cell? ⟨w.heap.size + 1, 2, none⟩ = some (.string (S b.info)) := cell_at HS.out 2
  have r3 : w9.cell? ⟨w.heap.size + 1, 3, none⟩ = some (.slice al b.lines.length cl) := cell_at HS.out 3
  have r4 : w9.cell? ⟨w.heap.size + 1, 4, none⟩ = some (.slice as' b.spans.length cs) := cell_at HS.out 4
  have r5 : w9.cell? ⟨w.heap.size + 1, 5, none⟩ = some (.slice ak b.kids.length ck) := cell_at HS.out 5
  exact bodyPost_ret (v := .tuple #[.agg #[.int .i64 b.kind, .int .i64 b.level, .string (S b.info), .slice al b.lines.length cl, .slice as' b.spans.length cs, .slice ak b.kids.length ck], .int .i64 ((0 : Nat) : Int)]) (by simp [results, Tryz.results72, go_sem, r0, r1, r2, r3, r4, r5]) rfl (by rw [HV.out]; exact ans_bz (o := some b) rfl HB9.out hz2 (HK9.out _ hlt2) HKB.out)
theorem blockC_any (d : Nat) (HC : ContC d) (HL : ListC d) : BlockC d := by
  intro v s u w hr ht hk hre
  rcases kind_cases s hk with k | k | k | k | k | k | k
  · exact blockP2_any d v s u w hr ht k hre
  · exact blockP3_any d v s u w hr ht k hre
  · exact blockP4_any d v s u w hr ht k hre
  · exact blockP5_any d HC v s u w hr ht k hre
  · exact blockP6_any d HL v s u w hr ht k hre
  · exact blockP7_any d v s u w hr ht k hre
  · exact blockP8_any d v s u w hr ht k hre
theorem blocks_all : ∀ m d, 16 - d ≤ m → d ≤ 16 → BlocksC d
  | 0, d, hm, hd => blocksC_any d hd (blockC_any d (contC_any d hd (fun h => absurd h (by omega))) (listC_any d hd (fun h => absurd h (by omega))))
  | m + 1, d, hm, hd => blocksC_any d hd (blockC_any d (contC_any d hd (fun h => blocks_all m (d + 1) (by omega) h)) (listC_any d hd (fun h => contC_any (d + 1) h (fun h2 => blocks_all m (d + 2) (by omega) h2))))
end Go.Proofs.YtihihgfcklkkhaaGreatDoor.Pa
namespace Go.Proofs.YtihihgfcklkkhaaGreatDoor.Pa
open Go.RowKit
open Go.Proofs.YtihihgfcklkkhaaGreatDoor.Tk (S S_of S_list S_size S_toList S_app ret_int eq8 ne8 at_data len_data Rd)
open Go.Proofs.YtihihgfcklkkhaaGreatDoor.Sp (ret_bool OkAns)
open Go.Proofs.YtihihgfcklkkhaaGreatDoor.Bt (TrB KB)
open Go.Proofs.YtihihgfcklkkhaaGreatDoor.Cm (Keep)
open Go.Proofs.YtihihgfcklkkhaaGreatDoor.Bk (Tx Bk kindOf)
open Go.Proofs.YtihihgfcklkkhaaGreatDoor.Utf (chk)
set_option linter.unusedVariables false
theorem linesP_any (v : Value) (xs : List Tx) (w : World) (hr : Rd w v xs) (ht : tot xs ≤ 20000) :
    Calls Tryz.prog 21 #[v] w (LnsAns w (lnsB xs)) := by
  have HA := Lib.hid (blocks_all 16 0 (by omega) (by omega) v xs w hr ht)
  unfold rdV at HA
  obtain ⟨ao, ca, rfl⟩ := hr.len
  have h16 : ((16 - 0 : Nat) : Int) = 16 := rfl
  rw [h16] at HA
  have HX : Hid (lnsB xs = match allE 0 xs with | none => ([], 5) | some l => (l, 0)) := Lib.hid rfl
  unfold BlksAns at HA
  generalize lnsB xs = X at *
  clear h16 hr
  generalize allE 0 xs = o at *
  go_enter Tryz.func21, Tryz.ntmps21
  go_wp2_with fail
  refine HA.out.mono ?_
  rintro e w2 ⟨u, rfl, hf, b2⟩
  have HF := Lib.hid hf.now
  have HB2 := Lib.hid b2
  clear hf b2 HA
  go_wp2_with fail
  go_ret2
  cases o with
  | none => exact ⟨_, by rw [HX.out]; rfl, by rw [HX.out]; exact HF.out, HB2.out⟩
  | some l => exact ⟨_, by rw [HX.out]; rfl, by rw [HX.out]; exact HF.out, HB2.out⟩
theorem docP_any (s : ByteArray) (hs : s.size ≤ 10000) (w : World) :
    Calls Tryz.prog 13 #[.string s] w (LnsAns w (docB s.data.toList)) := by
  have hca := fun (w : World) (t : ByteArray) => run_bytes_of_string (P := Tryz.prog) w 9 45 5 t Tryz.underlying9 Tryz.underlying45 Tryz.underlying5
  have HC := Lib.hid (Go.Proofs.YtihihgfcklkkhaaGreatDoor.Sp.check_row s w (by omega))
  have HS := Lib.hid (fun w' => Ln.split_any s (by omega) w')
  have HL := Lib.hid (fun v w' (hr : Rd w' v (Ln.split s.data.toList).1) => linesP_any v (Ln.split s.data.toList).1 w' hr (by
    have h := split_tot s.data.toList []
    rw [len_data] at h
    unfold Ln.split
    simp only [List.length_nil] at h
    omega))
  have HX : Hid (docB s.data.toList = if chk s = 0 then lnsB (Ln.split s.data.toList).1 else ([], chk s)) := Lib.hid (by unfold docB; rw [S_of])
  unfold LnsAns at HL
  generalize docB s.data.toList = X at *
  generalize chk s = c at *
  generalize lnsB (Ln.split s.data.toList).1 = r at *
  obtain ⟨r1, r2⟩ := r
  simp only at HL
  by_cases hc : c = 0
  · rw [if_pos hc] at HX
    subst hc
    go_enter Tryz.func13, Tryz.ntmps13
    go_wp2_with fail
    refine HC.out.mono ?_
    rintro e w2 ⟨rfl, b2⟩
    have HB2 := Lib.hid b2
    clear b2 HC hca
    go_wp2_with fail
    refine (HS.out _).mono ?_
    rintro e w3 ⟨u, rfl, hown, b3⟩
    have HRd : Hid (Rd w3 u (Ln.split s.data.toList).1) := Lib.hid (Rd.of_own hown)
    have HB3 := Lib.hid (HB2.out.trans (b3.mono HB2.out.size))
    have HL2 := Lib.hid (HL.out u w3 HRd.out)
    clear hown b3 HS HL HRd HB2
    go_wp2_with fail
    refine HL2.out.mono ?_
    rintro e w4 ⟨u4, rfl, ht4, b4⟩
    have HT4 := Lib.hid ht4
    have HB4 := Lib.hid (HB3.out.trans (b4.mono HB3.out.size))
    clear ht4 b4 HL2
    go_wp2_with fail
    go_ret2
    exact ⟨_, by rw [HX.out]; rfl, by rw [HX.out]; exact HT4.out, HB4.out⟩
  · have e1 : (c != 0) = true := by rw [bne_iff_ne]; exact hc
    rw [if_neg hc] at HX
    clear hc HS HL
    go_enter Tryz.func13, Tryz.ntmps13
    go_wp2_with fail
    refine HC.out.mono ?_
    rintro e w2 ⟨rfl, b2⟩
    have HB2 := Lib.hid b2
    clear b2 HC hca
    go_wp2_with fail
    go_ret2
    exact ⟨_, by rw [HX.out]; rfl, by rw [HX.out]; exact Kd.nilTrB _, HB2.out⟩
theorem told12 : Told12 where
  doc := fun s w h => docP_any s h w
  lines := fun v xs w hr h => linesP_any v xs w hr h
  spread := fun v xs w hr h => spreadP_any v xs w hr h
end Go.Proofs.YtihihgfcklkkhaaGreatDoor.Pa
